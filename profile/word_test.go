package profile_test

import (
	"slices"
	"strings"
	"testing"

	"conjoin/api"
	"conjoin/profile"
)

// shortest is the first one of the shortest of some words, given ascending.
func shortest(words []string) (string, bool) {
	if len(words) == 0 {
		return "", false
	}
	return slices.MinFunc(words, func(a, b string) int { return len(a) - len(b) }), true
}

func wantWord(t *testing.T, what any, got string, ok bool, e api.Errno, want string, is bool) {
	t.Helper()
	if got != want || ok != is || e != api.OK {
		t.Errorf("%v: %q, %v, error %d, want %q, %v", what, got, ok, e, want, is)
	}
}

func TestExamplesOfWords(t *testing.T) {
	l := parse(t, vessels)
	for i, want := range [][]string{{"acd", "accd acd bccd bcd", "abcd", "e"}, {"bc", "bc bcd", "bcd", ""}} {
		if p := strings.Join(profiles(l[i]), " "); p != want[1] {
			t.Fatalf("the oracle's profiles: %s", p)
		}
		word, ok, e := profile.First(l, i)
		wantWord(t, "First", word, ok, e, want[0], true)
		n, e := profile.Many(l, i)
		wantAll(t, "Many", e, n, len(strings.Fields(want[1])))
		s, e := profile.Letters(l, i)
		wantAll(t, "Letters", e, s, want[2])
		s, e = profile.Dead(l, i)
		wantAll(t, "Dead", e, s, want[3])
	}
	word, ok, e := profile.Overlap(l, 0, 1)
	wantWord(t, "Overlap", word, ok, e, "bcd", true)
}

// TestWords is D3 to D5, with P4.5 and P4.7: all that the profiles of a type say.
func TestWords(t *testing.T) {
	bare := 0
	eachList(t, 500, func(l []api.Type) {
		for i, x := range l {
			all := profiles(x)
			if len(all) == 0 {
				bare++
			}
			want, is := shortest(all)
			word, ok, e := profile.First(l, i)
			wantWord(t, x, word, ok, e, want, is)
			n, e := profile.Many(l, i)
			wantAll(t, x, e, n, len(all))
			letters := ascending(strings.Join(all, ""))
			s, e := profile.Letters(l, i)
			wantAll(t, x, e, s, letters)
			dead := without(named(x), letters)
			s, e = profile.Dead(l, i)
			wantAll(t, x, e, s, dead)
			wantSame(t, x, dead, all)
		}
	})
	if bare < 50 {
		t.Errorf("only %d types without profiles", bare)
	}
}

// without is a string without some letters.
func without(s, letters string) string {
	return strings.Map(func(c rune) rune {
		if strings.ContainsRune(letters, c) {
			return -1
		}
		return c
	}, s)
}

// wantSame is P4.5: without its dead classes a type has the same profiles.
func wantSame(t *testing.T, x api.Type, dead string, all []string) {
	t.Helper()
	for i, s := range x.After {
		x.After[i] = without(s, dead)
		if strings.ContainsRune(dead, rune('a'+i)) {
			x.After[i] = ""
		}
	}
	x.Rim, x.Base = without(x.Rim, dead), without(x.Base, dead)
	if x.Rim == "" || x.Base == "" {
		wantAll(t, x, api.OK, len(all), 0)
		return
	}
	n, e := profile.Many([]api.Type{x}, 0)
	wantAll(t, x, e, n, len(all))
	for _, w := range all {
		is, e := profile.IsProfile([]api.Type{x}, 0, w)
		wantAll(t, w, e, is, true)
	}
}

// TestIsProfile is IsProfile of D3 for all short words, and P4.3.
func TestIsProfile(t *testing.T) {
	eachList(t, 30, func(l []api.Type) {
		for i, x := range l {
			one := []api.Type{x}
			for _, w := range words(ascending(named(x)+strange), min(x.Most+1, 5)) {
				want := w != "" && isProfile(x, w)
				is, e := profile.IsProfile(l, i, w)
				wantAll(t, w, e, is, want)
				var r []api.Ring
				for p := range len(w) {
					r = append(r, ring(p, w[p:p+1]))
				}
				if len(w) == 0 {
					continue
				}
				// Its rings also fit longer words, so that the word itself has to be asked for.
				ok, e := profile.CheckFit(one, x.Ware, r, api.Fit{Word: w})
				wantAll(t, w, e, ok, want)
				fits, e := profile.Shifts(one, x.Ware, r)
				wantErr(t, w, e, api.OK)
				if want && !slices.ContainsFunc(fits, func(f api.Fit) bool { return f.Shift == 0 }) {
					t.Errorf("Shifts of the rings of %s: %v", w, fits)
				}
			}
		}
	})
}

// TestNoProfiles has strings that are no words.
func TestNoProfiles(t *testing.T) {
	l := []api.Type{full("t"), least()}
	l[0].Least = 2
	for word, want := range map[string]bool{
		"": false, "a": false, "aa": true, "az": true, "zzzzzzzzzzzz": true, "zzzzzzzzzzzzz": false, "aA": false, "Aa": false, "a a": false, "a`": false, "a{": false, "{a": false, "aé": false,
		"\xff\xff": false, "a\x00": false, "ab\n": false, strings.Repeat("a", 1000): false,
	} {
		is, e := profile.IsProfile(l, 0, word)
		wantAll(t, word, e, is, want)
		one, e := profile.IsProfile(l, 1, word)
		wantAll(t, word, e, one, word == "a")
	}
}

// TestMany is Many of D3 around its greatest number.
func TestMany(t *testing.T) {
	ten := func(least, most int) api.Type {
		x := api.Type{Name: "t", Ware: "w", Least: least, Most: most, Rim: "abcdefghij", Base: "abcdefghij"}
		for i := range 10 {
			x.After[i] = "abcdefghij"
		}
		return x
	}
	fewer := ten(9, 9)
	fewer.Base = "abcdefghi"
	one := ten(1, 9)
	one.Rim = "j"
	more := ten(9, 10)
	more.Rim, more.Base = "a", "ab"
	for _, c := range []struct {
		x    api.Type
		want int
	}{
		{ten(9, 9), 1000000000}, {ten(8, 9), 1000000000}, {ten(10, 10), 1000000000}, {full("t"), 1000000000}, {fewer, 900000000}, {one, 111111111}, {more, 2e7 + 2e8},
		{ten(1, 8), 111111110}, {ten(1, 1), 10}, {least(), 1},
	} {
		n, e := profile.Many([]api.Type{c.x}, 0)
		wantAll(t, c.x, e, n, c.want)
	}
}

// TestLongWords has types with many words and long ways that lead nowhere: what takes each way by itself does not end.
func TestLongWords(t *testing.T) {
	x := full("t")
	x.Least = 12
	maze := full("maze")
	maze.Rim, maze.Base = "abcdefghijklmnopqrstuvwxy", "z"
	for i := range maze.After {
		maze.After[i] = "abcdefghijklmnopqrstuvwxy"
	}
	maze.After[25] = ""
	door := maze
	door.Name, door.Least, door.After['y'-'a'] = "door", 12, "xz"
	l := []api.Type{x, maze, door}
	word, ok, e := profile.First(l, 0)
	wantWord(t, "First", word, ok, e, "aaaaaaaaaaaa", true)
	word, ok, e = profile.First(l, 1)
	wantWord(t, "First of the maze", word, ok, e, "", false)
	word, ok, e = profile.First(l, 2)
	wantWord(t, "First of the door", word, ok, e, "aaaaaaaaaayz", true)
	s, e := profile.Dead(l, 1)
	wantAll(t, "Dead of the maze", e, s, "abcdefghijklmnopqrstuvwxyz")
	s, e = profile.Letters(l, 2)
	wantAll(t, "Letters of the door", e, s, "abcdefghijklmnopqrstuvwxyz")
	word, ok, e = profile.Overlap(l, 0, 2)
	wantWord(t, "Overlap", word, ok, e, "aaaaaaaaaayz", true)
	word, ok, e = profile.Overlap(l, 1, 2)
	wantWord(t, "Overlap with the maze", word, ok, e, "", false)
	f, ok, e := profile.Complete(l[1:], "bell", []api.Ring{ring(11, "z")})
	wantAll(t, "Complete", e, f, api.Fit{Type: 1, Word: "aaaaaaaaaayz"})
	wantAll(t, "Complete", e, ok, true)
	r := []api.Ring{ring(0, "q"), ring(2, "az")}
	b, ok, e := profile.Blanks(l[1:2], "bell", r)
	if len(b) != 10 || b[9].Shift != 9 || b[9].Sets[9] != "q" || b[9].Sets[11] != "a" || !ok || e != api.OK {
		t.Errorf("Blanks of the maze: %v, %v, error %d", b, ok, e)
	}
	is, e := profile.CheckBlanks(l[1:2], "bell", r, b)
	wantAll(t, "CheckBlanks of the maze", e, is, true)
}

// TestOverlap is Overlap of D5, and P4.7.
func TestOverlap(t *testing.T) {
	both := 0
	eachList(t, 300, func(l []api.Type) {
		for i := range l {
			for j := range l {
				second := profiles(l[j])
				all := slices.DeleteFunc(profiles(l[i]), func(w string) bool { return !slices.Contains(second, w) })
				want, is := shortest(all)
				if is && i != j {
					both++
				}
				word, ok, e := profile.Overlap(l, i, j)
				wantWord(t, l, word, ok, e, want, is)
				if i == j {
					_, first, _ := profile.First(l, i)
					wantAll(t, l, e, ok, first)
				}
			}
		}
	})
	if both < 100 {
		t.Errorf("only %d times two types overlap", both)
	}
}

// TestWares is Wares of D5, of any list.
func TestWares(t *testing.T) {
	for _, c := range []struct {
		l    []api.Type
		want []string
	}{
		{nil, nil}, {[]api.Type{{}}, []string{""}}, {parse(t, vessels), []string{"bell"}},
		{[]api.Type{{Ware: "b"}, {Ware: "a-b"}, {Ware: "\xff"}, {Ware: "b"}, {Ware: "a"}, {Ware: "B b"}, {Ware: "a"}}, []string{"B b", "a", "a-b", "b", "\xff"}},
		{make([]api.Type, 20), []string{""}},
	} {
		wantAll(t, c.l, api.OK, profile.Wares(c.l), c.want)
	}
}
