package edge_test

import (
	"math"
	"testing"

	"conjoin/api"
	"conjoin/edge"
)

// TestStrings is C11 and P3.9: all pairings that have a string.
func TestStrings(t *testing.T) {
	seen := map[string]bool{}
	for i := -1; i <= 17; i++ {
		for j := -1; j <= 17; j++ {
			for m := -1; m <= 17; m++ {
				for n := -1; n <= 17; n++ {
					p := pairing(i, j, m, n)
					s, e := edge.Write(p)
					if i < 0 || m < 0 || i >= j || m >= n || j > 16 || n > 16 || j-i != n-m {
						if s != "" || e != api.ErrArg {
							t.Fatalf("Write(%v): %q, error %d", p, s, e)
						}
						continue
					}
					back, f := edge.Read(s)
					if e != api.OK || f != api.OK || back != p || seen[s] {
						t.Fatalf("Write(%v): %q, error %d, which is read as %v, error %d", p, s, e, back, f)
					}
					seen[s] = true
				}
			}
		}
	}
	if len(seen) != 1496 {
		t.Errorf("%d strings", len(seen))
	}
	for _, p := range []api.Pairing{pairing(math.MinInt, math.MaxInt, math.MinInt, math.MaxInt), pairing(0, math.MaxInt, 0, math.MaxInt), pairing(math.MinInt, 0, math.MinInt, 0)} {
		if s, e := edge.Write(p); s != "" || e != api.ErrArg {
			t.Errorf("Write(%v): %q, error %d", p, s, e)
		}
	}
}

// TestSpellings is C11: strings as they are written, and strings that are nearly so.
func TestSpellings(t *testing.T) {
	for s, p := range map[string]api.Pairing{"0 1 1 2": pairing(0, 1, 1, 2), "0 16 0 16": pairing(0, 16, 0, 16), "10 12 7 9": pairing(10, 12, 7, 9), "15 16 15 16": pairing(15, 16, 15, 16)} {
		if got, e := edge.Write(p); got != s || e != api.OK {
			t.Errorf("Write(%v): %q, error %d", p, got, e)
		}
		if got, e := edge.Read(s); got != p || e != api.OK {
			t.Errorf("Read(%q): %v, error %d", s, got, e)
		}
	}
	for _, s := range []string{
		"", " ", "   ", "0", "0 1", "0 1 0", "0 1 0 1 0", "0 1 0 1 ", " 0 1 0 1", "0  1 0 1", "0 1 0 1\n", "0\t1 0 1", "+0 1 0 1", "-0 1 0 1", "0 +1 0 1",
		"00 1 0 1", "0 01 0 1", "0x0 1 0 1", "0 1 0 1_", "0 1_ 0 1", "a 1 0 1", "0 1 0 b", "0.0 1 0 1", "0 1e0 0 1", "0 0 0 0", "1 1 1 1", "1 0 1 0", "0 2 0 1",
		"0 1 0 2", "-1 1 0 2", "0 2 -1 1", "0 17 0 17", "16 17 0 1", "0 1 16 17", "0 18446744073709551617 0 1", "99999999999999999999 1 0 1", "0 1 0 \xff", "0,1,0,1", "0 1 0 ١",
	} {
		if p, e := edge.Read(s); p != (api.Pairing{}) || e != api.ErrForm {
			t.Errorf("Read(%q): %v, error %d", s, p, e)
		}
	}
}
