package join_test

import (
	"regexp"
	"strconv"
	"strings"
	"testing"

	"conjoin/api"
	"conjoin/join"
)

// TestLines is E3 and P5.9.
func TestLines(t *testing.T) {
	for line, x := range map[string]api.Claim{
		"21 1 below 1 2 0 1 2 3":                    {Id: 21, Known: 1, Kind: 2, A: 1, B: 2, SideA: api.Stretch{From: 0, To: 1}, SideB: api.Stretch{From: 2, To: 3}},
		"22 2 confirm 21":                           {Id: 22, Known: 2, Kind: 3, Of: 21},
		"1000000 100000 beside 1000000 1 0 16 0 16": {Id: 1000000, Known: 100000, Kind: 1, A: 1000000, B: 1, SideA: api.Stretch{To: 16}, SideB: api.Stretch{To: 16}},
		"1 0 drop 1000000":                          {Id: 1, Kind: 4, Of: 1000000},
		"1 0 void 1":                                {Id: 1, Kind: 5, Of: 1},
	} {
		want(t, line, all(join.Write(x)), all(line, api.OK))
		want(t, line, all(join.Read(line)), all(x, api.OK))
	}
	for _, x := range formed() {
		line, e := join.Write(x)
		wantErr(t, line, e, api.OK)
		want(t, line, all(join.Read(line)), all(x, api.OK))
	}
	for _, x := range spoilt() {
		want(t, x, all(join.Write(x)), all("", api.ErrArg))
	}
	eachFiles(t, 100, func(f api.Files) {
		for _, x := range f.Claims {
			line, _ := join.Write(x)
			want(t, line, all(join.Read(line)), all(x, api.OK))
		}
	})
}

// isLine says whether a line is that of a well-formed record, by the form that the chapter says.
func isLine(form *regexp.Regexp, line string) bool {
	m := form.FindStringSubmatch(line)
	if m == nil {
		return false
	}
	var n []int
	for _, w := range strings.Fields(line) {
		if i, err := strconv.Atoi(w); err == nil {
			n = append(n, i)
		}
	}
	for i, most := range []int{1000000, 100000, 1000000, 1000000} {
		if i < len(n) && (n[i] > most || n[i] < 1 && i != 1) {
			return false
		}
	}
	return len(n) == 3 || n[2] != n[3] && n[4] < n[5] && n[5] <= 16 && n[6] < n[7] && n[7] <= 16 && n[5]-n[4] == n[7]-n[6]
}

// TestNearLines is E3: lines that are nearly those of records.
func TestNearLines(t *testing.T) {
	number := `(0|[1-9][0-9]{0,8})`
	form := regexp.MustCompile(`\A` + number + ` ` + number + ` ((beside|below)( ` + number + `){6}|(confirm|drop|void) ` + number + `)\z`)
	try := func(line string) {
		x, e := join.Read(line)
		if isLine(form, line) {
			want(t, line, all(join.Write(x)), all(line, api.OK))
			wantErr(t, line, e, api.OK)
		} else if e != api.ErrForm || x != (api.Claim{}) {
			t.Errorf("Read(%q): %v, error %d", line, x, e)
		}
	}
	for _, line := range []string{"21 1 below 1 2 0 1 2 3", "7 0 beside 12 3 14 16 0 2", "22 2 confirm 21", "5 100000 drop 9", "1000000 7 void 1"} {
		for i := range len(line) + 1 {
			for _, c := range []string{" ", "0", "1", "9", "-", "+", "a", "\n", "\t", "\x00", "\xff", "٣", "  ", "e1", "_1", " 0 1"} {
				try(line[:i] + c + line[i:])
				if i < len(line) {
					try(line[:i] + c + line[i+1:])
				}
			}
			try(line[:i])
			try(line[i:])
		}
		words := strings.Split(line, " ")
		for i := range words {
			for _, w := range []string{"", "beside", "below", "confirm", "drop", "void", "Void", "0", "-1", "-0", "1000000", "1000001", "100000", "100001", "16", "17", "99999999999999999999"} {
				other := strings.Split(line, " ")
				other[i] = w
				try(strings.Join(other, " "))
			}
		}
	}
	for _, line := range []string{"", " ", "1", "1 0", "1 0 ", "1 0  5", "1 0 0 5", "1 0 beside", "1 0 beside 1", "1 0 beside 1 2", "1 0 beside 1 2 0 1 0", "1 0 beside 5", "1 0 void 1 2 0 1 0 1", "void 1 0 1"} {
		try(line)
	}
}
