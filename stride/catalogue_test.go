package stride_test

import (
	"testing"

	"stride/api"
	"stride/stride"
)

func TestCatalogueTellsPrograms(t *testing.T) {
	for name, want := range map[string]string{
		"reach": lines("new: value in min", "go: value 1000000000 < step 0 = value old < max *", "msg: value weight +", "halt: 1", "give: 1", "by: min", "all: sum"),
		"least": lines("new: step 0 = id value in min ?", "go: step 0 = value old < max", "msg: value", "halt: 1", "give: 1", "by: min", "all: sum"),
		"most":  lines("new: value in max", "go: step 0 = old value < max", "msg: value", "halt: 1", "give: value", "by: max", "all: max"),
		"rank":  lines("new: step 0 = 1000000 in 85 * 100 / 150000 + ?", "go: step 20 <", "msg: value deg /", "halt: step 19 < 0 =", "give: value", "by: sum", "all: sum"),
	} {
		if text, e := stride.Catalogue(name); text != want || e != api.OK {
			t.Errorf("Catalogue(%q) = %q, %d, want %q", name, text, e, want)
		}
	}
}

func TestCatalogueRefusesOtherNames(t *testing.T) {
	for _, name := range []string{"", " ", "Reach", "REACH", "reach ", " reach", "reach\n", "reach\x00", "reac", "reachreach", "leas", "mostly", "ranks", "min", "new", "\xff"} {
		if text, e := stride.Catalogue(name); text != "" || e != api.ErrNone {
			t.Errorf("Catalogue(%q) = %q, %d", name, text, e)
		}
	}
}
