package sherd_test

import (
	"strings"
	"testing"

	"conjoin/api"
	"conjoin/sherd"
)

// TestLines is B10: the line of each kind of items.
func TestLines(t *testing.T) {
	for line, x := range map[string]api.Item{
		"1 0 sherd bell 1 4 4 foot": {Id: 1, Kind: 1, Ware: "bell", Pit: 1, Layer: 4, Corners: 4, Foot: true},
		"1 0 sherd foot 20 50 16":   {Id: 1, Kind: 1, Ware: "foot", Pit: 20, Layer: 50, Corners: 16},
		"12 34 way 56 7 8 9 10":     {Id: 12, Known: 34, Kind: 2, Sherd: 56, From: 7, To: 8, Low: 9, High: 10},
		"12 34 turn 56 7 8 -9 10":   {Id: 12, Known: 34, Kind: 3, Sherd: 56, From: 7, To: 8, Low: -9, High: 10},
		"12 34 turn 56 0 8 -9 -3":   {Id: 12, Known: 34, Kind: 3, Sherd: 56, To: 8, Low: -9, High: -3},
		"12 34 colour 56 0 10":      {Id: 12, Known: 34, Kind: 4, Sherd: 56, High: 10},
		"12 34 curve 56 abz":        {Id: 12, Known: 34, Kind: 5, Sherd: 56, Set: "abz"},
		"12 34 limit cord-5 40":     {Id: 12, Known: 34, Kind: 6, Ware: "cord-5", Limit: 40},
		"1000000 100000 void 1000":  {Id: 1000000, Known: 100000, Kind: 7, Of: 1000},
	} {
		if got, e := sherd.Write(x); got != line || e != api.OK {
			t.Errorf("Write(%v): %q, error %d", x, got, e)
		}
		if got, e := sherd.Read(line); got != x || e != api.OK {
			t.Errorf("Read(%q): %v, error %d", line, got, e)
		}
	}
}

// TestInverse is P2.8, and lines that are nearly those of items.
func TestInverse(t *testing.T) {
	d := dice(11)
	good := whole()
	for range 500 {
		good = append(good, d.anyItem(d.below(100)))
	}
	for _, x := range good {
		line, e := sherd.Write(x)
		if sherd.CheckItem(x) != api.OK || e != api.OK {
			t.Fatalf("Write(%v): %q, error %d", x, line, e)
		}
		if y, e := sherd.Read(line); y != x || e != api.OK {
			t.Errorf("Read(%q): %v, error %d, want %v", line, y, e, x)
		}
		for _, near := range nearby(line) {
			y, e := sherd.Read(near)
			if e != api.OK {
				if e != api.ErrForm || y != (api.Item{}) {
					t.Errorf("Read(%q): %v, error %d", near, y, e)
				}
				continue
			}
			if back, e := sherd.Write(y); back != near || e != api.OK {
				t.Errorf("Read(%q): %v, which is %q, error %d", near, y, back, e)
			}
		}
	}
	for _, x := range spoilt() {
		if line, e := sherd.Write(x); line != "" || e != api.ErrArg {
			t.Errorf("Write(%v): %q, error %d", x, line, e)
		}
	}
}

// nearby are lines with a byte less, a byte more, or another byte.
func nearby(line string) []string {
	var l []string
	for i := range len(line) + 1 {
		for _, c := range []string{" ", "0", "7", "-", "+", "a", "foot", "\n", "\t", "\r", "_", "x", "z", "\xff", "٣"} {
			l = append(l, line[:i]+c+line[i:])
			if i < len(line) {
				l = append(l, line[:i]+c+line[i+1:])
			}
		}
		if i < len(line) {
			l = append(l, line[:i]+line[i+1:], line[:i])
		}
	}
	return append(l, line+line, strings.ToUpper(line), strings.ReplaceAll(line, " ", "  "))
}

// TestNoLines is Read of what is no line of an item.
func TestNoLines(t *testing.T) {
	for _, line := range []string{
		"", " ", "1", "1 0", "1 0 ", "1 0 sherd", "1 0 void", "1 0 void ", "1 0 void 2 ", " 1 0 void 2", "1  0 void 2", "1 0 void 2\n", "1 0 void +2", "1 0 void 02", "1 0 void 0x2", "1 0 void 1_0",
		"01 0 void 2", "1 00 void 2", "1 -0 void 2", "1 0 Void 2", "1 0 voids 2", "1 0  2", "1 0 void 99999999999999999999", "0 0 void 2", "1000001 0 void 2", "1 100001 void 2", "1 0 void 2 3",
		"1 0 sherd bell 1 4 4 feet", "1 0 sherd bell 1 4 4 foot foot", "1 0 sherd bell 1 4 4 ", "1 0 sherd bell 1 4 4  foot", "1 0 sherd  1 4 4", "1 0 sherd Bell 1 4 4", "1 0 sherd bell 1 4 2", "1 0 sherd bell 1 4", "1 0 sherd foot",
		"1 0 way 1 2 2 30 34", "1 0 way 1 0 2 34 30", "1 0 way 1 0 2 0 30", "1 0 way 1 0 2 30", "1 0 way 1 0 2 30 34 1", "1 0 turn 1 0 16 0 0", "1 0 turn 1 0 1 -0 0", "1 0 turn 1 0 1 - 0", "1 0 colour 1 -1 5", "1 0 colour 1 -0 5", "1 0 colour 1 5",
		"1 0 curve 1 cb", "1 0 curve 1", "1 0 curve 1 ", "1 0 curve 1 A", "1 0 curve 1 a b", "1 0 limit bell 41", "1 0 limit bell", "1 0 limit bell 0", "1 0 limit 5", "sherd", "1 sherd bell 1 4 4", "a b void c",
	} {
		if x, e := sherd.Read(line); x != (api.Item{}) || e != api.ErrForm {
			t.Errorf("Read(%q): %v, error %d", line, x, e)
		}
	}
}
