/-
  The means of at most three men at home: a table, checked. No conditions beyond those that each theorem bears.
-/
import Derived.Test.YtmboikpcbkiepaaEnds2
import Derived.Test.YtmboikpcbkiepaaOff
namespace Go.Proofs.Ytmboikpcbkiepaa
open Go.RowKit Go.Maps

inductive BT where
  | n : BT
  | t (k v : Nat) (l r : BT) : BT

def BT.look : BT → Nat → Option Nat
  | .n, _ => none
  | .t k v l r, c => if Nat.beq c k then some v else if Nat.blt c k then l.look c else r.look c

def tab : BT := (.t 273 219580741361664 (.t 65 178121744990208 (.t 16 107202176483328 (.t 5 199062391062528 (.t 2 214251978203136 (.t 1 126949945835520 (.t 0 0 .n .n) .n) (.t 4 115665506205696 (.t 3 295873045373952 .n .n) .n)) (.t 9 266711035060224 (.t 8 194438905380864 (.t 6 279427777311744 .n .n) .n) (.t 12 263039233241088 .n .n))) (.t 32 173654987636736 (.t 20 178748658302976 (.t 18 271266314895360 (.t 17 187856315596800 .n .n) .n) (.t 24 245471632330752 (.t 21 252521020993536 .n .n) .n)) (.t 48 230316631842816 (.t 36 232448669208576 (.t 33 243721499332608 .n .n) .n) (.t 64 101559956668416 .n .n)))) (.t 132 214108310568960 (.t 81 228826503401472 (.t 69 241274795986944 (.t 68 164878201257984 (.t 66 261896664379392 .n .n) .n) (.t 80 155474501566464 (.t 72 237237590347776 .n .n) .n)) (.t 128 155161044910080 (.t 96 215536279781376 (.t 84 219458841550848 .n .n) .n) (.t 129 222715307925504 .n .n))) (.t 258 256529686597632 (.t 256 101559956668416 (.t 192 203825190813696 (.t 144 205096431697920 .n .n) .n) (.t 257 167699311165440 .n .n)) (.t 264 229733254176768 (.t 261 236541020000256 (.t 260 149832281751552 .n .n) .n) (.t 272 138234385465344 .n .n))))) (.t 1041 213167940599808 (.t 528 191835473707008 (.t 336 196772416045056 (.t 320 132592165650432 (.t 288 206036801667072 (.t 276 211443928989696 .n .n) .n) (.t 324 201021495164928 (.t 321 211287200661504 .n .n) .n)) (.t 513 211365564825600 (.t 512 129771055742976 (.t 384 194970040270848 .n .n) .n) (.t 516 202257907531776 .n .n))) (.t 1026 249514642722816 (.t 1024 101559956668416 (.t 768 189014363799552 (.t 576 189327820455936 .n .n) .n) (.t 1025 161116721381376 .n .n)) (.t 1032 223198553604096 (.t 1029 223969134551040 (.t 1028 138234385465344 .n .n) .n) (.t 1040 121307726020608 .n .n)))) (.t 1296 189327820455936 (.t 1104 193402756988928 (.t 1088 107202176483328 (.t 1056 203981919141888 (.t 1044 203215691759616 .n .n) .n) (.t 1092 195988774404096 (.t 1089 200708038508544 .n .n) .n)) (.t 1281 197242601029632 (.t 1280 101559956668416 (.t 1152 192148930363392 .n .n) .n) (.t 1284 194343126958080 .n .n))) (.t 2052 192148930363392 (.t 2048 101559956668416 (.t 1536 189014363799552 (.t 1344 189014363799552 .n .n) .n) (.t 2049 198104606834688 .n .n)) (.t 2304 186193253892096 (.t 2112 189014363799552 (.t 2064 189014363799552 .n .n) .n) (.t 3072 186193253892096 .n .n))))))

def code (m : List Nat) : Nat := m.foldl (fun a x => 4 * a + x) 0

/-- The mean of such men, in parts. -/
def vl (m : List Nat) : Nat := (tab.look (code m)).getD 0

/-- All sides of at most three men at home. -/
def Ms : List (List Nat) := [[0, 0, 0, 0, 0, 0], [0, 0, 0, 0, 0, 1], [0, 0, 0, 0, 0, 2], [0, 0, 0, 0, 0, 3], [0, 0, 0, 0, 1, 0], [0, 0, 0, 0, 1, 1], [0, 0, 0, 0, 1, 2], [0, 0, 0, 0, 2, 0], [0, 0, 0, 0, 2, 1], [0, 0, 0, 0, 3, 0], [0, 0, 0, 1, 0, 0], [0, 0, 0, 1, 0, 1], [0, 0, 0, 1, 0, 2], [0, 0, 0, 1, 1, 0], [0, 0, 0, 1, 1, 1], [0, 0, 0, 1, 2, 0], [0, 0, 0, 2, 0, 0], [0, 0, 0, 2, 0, 1], [0, 0, 0, 2, 1, 0], [0, 0, 0, 3, 0, 0], [0, 0, 1, 0, 0, 0], [0, 0, 1, 0, 0, 1], [0, 0, 1, 0, 0, 2], [0, 0, 1, 0, 1, 0], [0, 0, 1, 0, 1, 1], [0, 0, 1, 0, 2, 0], [0, 0, 1, 1, 0, 0], [0, 0, 1, 1, 0, 1], [0, 0, 1, 1, 1, 0], [0, 0, 1, 2, 0, 0], [0, 0, 2, 0, 0, 0], [0, 0, 2, 0, 0, 1], [0, 0, 2, 0, 1, 0], [0, 0, 2, 1, 0, 0], [0, 0, 3, 0, 0, 0], [0, 1, 0, 0, 0, 0], [0, 1, 0, 0, 0, 1], [0, 1, 0, 0, 0, 2], [0, 1, 0, 0, 1, 0], [0, 1, 0, 0, 1, 1], [0, 1, 0, 0, 2, 0], [0, 1, 0, 1, 0, 0], [0, 1, 0, 1, 0, 1], [0, 1, 0, 1, 1, 0], [0, 1, 0, 2, 0, 0], [0, 1, 1, 0, 0, 0], [0, 1, 1, 0, 0, 1], [0, 1, 1, 0, 1, 0], [0, 1, 1, 1, 0, 0], [0, 1, 2, 0, 0, 0], [0, 2, 0, 0, 0, 0], [0, 2, 0, 0, 0, 1], [0, 2, 0, 0, 1, 0], [0, 2, 0, 1, 0, 0], [0, 2, 1, 0, 0, 0], [0, 3, 0, 0, 0, 0], [1, 0, 0, 0, 0, 0], [1, 0, 0, 0, 0, 1], [1, 0, 0, 0, 0, 2], [1, 0, 0, 0, 1, 0], [1, 0, 0, 0, 1, 1], [1, 0, 0, 0, 2, 0], [1, 0, 0, 1, 0, 0], [1, 0, 0, 1, 0, 1], [1, 0, 0, 1, 1, 0], [1, 0, 0, 2, 0, 0], [1, 0, 1, 0, 0, 0], [1, 0, 1, 0, 0, 1], [1, 0, 1, 0, 1, 0], [1, 0, 1, 1, 0, 0], [1, 0, 2, 0, 0, 0], [1, 1, 0, 0, 0, 0], [1, 1, 0, 0, 0, 1], [1, 1, 0, 0, 1, 0], [1, 1, 0, 1, 0, 0], [1, 1, 1, 0, 0, 0], [1, 2, 0, 0, 0, 0], [2, 0, 0, 0, 0, 0], [2, 0, 0, 0, 0, 1], [2, 0, 0, 0, 1, 0], [2, 0, 0, 1, 0, 0], [2, 0, 1, 0, 0, 0], [2, 1, 0, 0, 0, 0], [3, 0, 0, 0, 0, 0]]

/-- Such a side. -/
def sd6 (m : List Nat) : List Int := 0 :: (m.map (fun n : Nat => (n : Int)) ++ List.replicate 45 0)

def pip (m : List Nat) : Nat := (List.range 6).foldl (fun a i => a + (i + 1) * m.getD i 0) 0

def st6 (m : List Nat) (f p : Nat) : Option (List Nat) :=
  if Nat.blt 6 f || Nat.beq (m.getD (f - 1) 0) 0 then none
  else if Nat.ble f p then
    if Nat.blt f p && (m.drop f).any (fun x => !(Nat.beq x 0)) then none else some (m.set (f - 1) (m.getD (f - 1) 0 - 1))
  else some ((m.set (f - 1) (m.getD (f - 1) 0 - 1)).set (f - p - 1) ((m.set (f - 1) (m.getD (f - 1) 0 - 1)).getD (f - p - 1) 0 + 1))

def aftL (L : List (List Nat)) (p : Nat) : List (List Nat) := L.flatMap fun m => (List.range 6).filterMap fun i => st6 m (i + 1) p

def repL (p : Nat) : Nat → List (List Nat) → List (List Nat)
  | 0, L => L
  | k + 1, L => if (aftL L p).isEmpty then L else repL p k (aftL L p)

def twoL (F G B : List (List Nat)) (m : List Nat) : List (List Nat) :=
  if B.isEmpty then if F.isEmpty then if G.isEmpty then [m] else G else F else B

def endsL (m : List Nat) (x y : Nat) : List (List Nat) :=
  if x = y then repL x 4 [m]
  else twoL (aftL [m] (max x y)) (aftL [m] (min x y)) (aftL (aftL [m] (max x y)) (min x y) ++ aftL (aftL [m] (min x y)) (max x y)) m

/-- The least of some. -/
def lst (L : List (List Nat)) : Nat := L.foldl (fun a m => min a (vl m)) 9223372036854775807

def one9 : Nat := 101559956668416

/-- What the rounds before x gave, and in round x those before y. -/
def rowS (m : List Nat) (x : Nat) : Nat → Nat
  | 0 => 0
  | k + 1 => rowS m x k + 2 * lst (endsL m x (k + 1))

def sumS (m : List Nat) : Nat → Nat
  | 0 => 0
  | k + 1 => sumS m k + (lst (endsL m (k + 1) (k + 1)) + rowS m (k + 1) k)

set_option maxRecDepth 100000

/-- Steps are the same. -/
theorem stp_tab : (Ms.all fun m => (List.range 25).all fun i => (List.range 6).all fun p => decide (stp (sd6 m) (i + 1) (p + 1) = (st6 m (i + 1) (p + 1)).map sd6)) = true := by decide +kernel

theorem st6_tab : (Ms.all fun m => (List.range 6).all fun i => (List.range 6).all fun p => ((st6 m (i + 1) (p + 1)).all fun z => Ms.contains z && Nat.blt (pip z) (pip m))) = true := by decide +kernel

/-- Some man can step. -/
theorem some_tab : (Ms.all fun m => (List.range 6).all fun p => Nat.beq (pip m) 0 || !(aftL [m] (p + 1)).isEmpty) = true := by decide +kernel

/-- The table is right. -/
theorem val_tab : (Ms.all fun m => if Nat.beq (pip m) 0 then Nat.beq (vl m) 0 else Nat.beq (vl m) (one9 + sumS m 6 / 36) && Nat.ble (vl m) (3 * one9)) = true := by decide +kernel

theorem off_tab : (Ms.all fun m => offB (sd6 m) == Nat.beq (pip m) 0) = true := by decide +kernel

theorem gd_tab : (Ms.all fun m => (sd6 m).length == 52 && (List.range 52).all fun i => decide (0 ≤ (sd6 m).getD i 0 ∧ (sd6 m).getD i 0 ≤ 3)) = true := by decide +kernel

end Go.Proofs.Ytmboikpcbkiepaa
