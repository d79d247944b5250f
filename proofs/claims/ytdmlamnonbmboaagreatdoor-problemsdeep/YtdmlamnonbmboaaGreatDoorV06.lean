/-
  Small functions on lists, of the laws, of the document and of the library, walked. No conditions beyond those that each theorem bears.
-/
import Derived.Test.YtdmlamnonbmboaaGreatDoorV05
namespace Go.Proofs.YtdmlamnonbmboaaGreatDoor
open Go.RowKit Go.Shelf

end Go.Proofs.YtdmlamnonbmboaaGreatDoor
