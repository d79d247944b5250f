package pieces_test

import (
	"testing"

	"gameroom/pieces"
)

func TestLead(t *testing.T) {
	for _, c := range []struct {
		words string
		want  int
	}{
		{"", 0},
		{"Ka1 kh8", 0},
		{"Pa2", 1}, {"Na2", 3}, {"Ba2", 3}, {"Ra2", 5}, {"Qa2", 9},
		{"pa2", -1}, {"na2", -3}, {"ba2", -3}, {"ra2", -5}, {"qa2", -9},
		{"Ka1 Qb1 Rc1 Rd1 Pe4 kh8 qg8 bf8 nb8 pa7 pa6", 20 - 17},
	} {
		if lead := pieces.Lead(places(c.words)); lead != c.want {
			t.Errorf("%q: %d; want %d", c.words, lead, c.want)
		}
	}
}
