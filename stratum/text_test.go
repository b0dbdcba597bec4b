package stratum_test

import (
	"math"
	"strings"
	"testing"

	"conjoin/api"
	"conjoin/stratum"
)

// TestLines is H10: the line of each kind of traces.
func TestLines(t *testing.T) {
	for line, x := range map[string]api.Trace{
		"1 0 above 1 1 2":                 {Id: 1, Kind: 1, Pit: 1, Layer: 1, Lower: 2},
		"12 34 above 5 6 7":               {Id: 12, Known: 34, Kind: 1, Pit: 5, Layer: 6, Lower: 7},
		"12 34 dated 5 6 -78 9":           {Id: 12, Known: 34, Kind: 2, Pit: 5, Layer: 6, Low: -78, High: 9},
		"12 34 dated 5 6 -10000 -10000":   {Id: 12, Known: 34, Kind: 2, Pit: 5, Layer: 6, Low: -10000, High: -10000},
		"12 34 dated 5 6 0 0":             {Id: 12, Known: 34, Kind: 2, Pit: 5, Layer: 6},
		"12 34 moved 5 6 789":             {Id: 12, Known: 34, Kind: 3, Pit: 5, Layer: 6, Cost: 789},
		"1000000 100000 void 1000":        {Id: 1000000, Known: 100000, Kind: 4, Of: 1000},
		"1000000 100000 moved 20 50 1000": {Id: 1000000, Known: 100000, Kind: 3, Pit: 20, Layer: 50, Cost: 1000},
	} {
		want(t, line, all(stratum.Write(x)), all(line, api.OK))
		want(t, line, all(stratum.Read(line)), all(x, api.OK))
	}
}

// TestInverse is P8.8, and lines that are nearly those of traces.
func TestInverse(t *testing.T) {
	d := newDice(16)
	good := goodTraces()
	for range 20 {
		good = append(good, d.anyLog(12, area{20, 50})...)
	}
	for _, x := range good {
		line, e := stratum.Write(x)
		want(t, x, all(e), all(api.OK))
		want(t, line, all(stratum.Read(line)), all(x, api.OK))
		for _, near := range nearby(line) {
			y, e := stratum.Read(near)
			if e != api.OK {
				want(t, near, all(y, e), all(api.Trace{}, api.ErrForm))
				continue
			}
			want(t, near, all(stratum.Write(y)), all(near, api.OK))
		}
	}
	for _, x := range badTraces() {
		want(t, x, all(stratum.Write(x)), all("", api.ErrArg))
	}
}

// nearby are lines with a byte less, a byte more, or another byte.
func nearby(line string) []string {
	var l []string
	for i := range len(line) + 1 {
		for _, c := range []string{" ", "0", "7", "-", "+", "a", "void", "\n", "\t", "\r", "_", "x", "\xff", "٣"} {
			l = append(l, line[:i]+c+line[i:])
			if i < len(line) {
				l = append(l, line[:i]+c+line[i+1:])
			}
		}
		if i < len(line) {
			l = append(l, line[:i]+line[i+1:], line[:i])
		}
	}
	return append(l, line+line, line+" 5", strings.ToUpper(line), strings.ReplaceAll(line, " ", "  "))
}

// TestNoLines is Read of what is no line of a trace.
func TestNoLines(t *testing.T) {
	for _, line := range []string{
		"", " ", "1", "1 0", "1 0 ", "1 0 void", "1 0 void ", "1 0 void 2 ", " 1 0 void 2", "1  0 void 2", "1 0 void 2\n", "1 0 void +2", "1 0 void 02", "1 0 void 0x2", "1 0 void 1_0", "1 0 void -2", "1 0 void 0",
		"01 0 void 2", "1 00 void 2", "1 -0 void 2", "1 0 Void 2", "1 0 voids 2", "1 0  2", "1 0 4 2", "1 0 void 99999999999999999999", "0 0 void 2", "1000001 0 void 2", "1 100001 void 2", "1 -1 void 2", "1 0 void 2 3",
		"1 0 above 1 1 1", "1 0 above 1 1", "1 0 above 1 1 2 3", "1 0 above 1 1 51", "1 0 above 1 51 1", "1 0 above 21 1 2", "1 0 above 0 1 2", "1 0 above 1 0 2", "1 0 above 1 2 0",
		"1 0 dated 1 1 6 5", "1 0 dated 1 1 5", "1 0 dated 1 1 -0 5", "1 0 dated 1 1 5 6 7", "1 0 dated 1 1 -10001 5", "1 0 dated 1 1 5 10001", "1 0 dated 1 1 - 5",
		"1 0 moved 1 1 0", "1 0 moved 1 1 1001", "1 0 moved 1 1", "1 0 moved 0 1 5", "1 0 moved 1 1 5 5", "1 0 below 1 1 2", "void", "1 void 2", "void 1 0 2", "a b void c", "1 0 above 1 1 2 above",
	} {
		want(t, line, all(stratum.Read(line)), all(api.Trace{}, api.ErrForm))
	}
	want(t, "far", all(stratum.Write(api.Trace{Id: math.MaxInt, Kind: 255})), all("", api.ErrArg))
}
