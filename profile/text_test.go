package profile_test

import (
	"regexp"
	"slices"
	"strconv"
	"strings"
	"testing"

	"conjoin/api"
	"conjoin/profile"
)

// lineForms are the forms of lines, by their first words. Each letter of LETTERS may be there or not; that one is there is said apart.
func lineForms() map[string]*regexp.Regexp {
	set := strings.Join(strings.Split("abcdefghijklmnopqrstuvwxyz", ""), "?") + "?"
	number := `(0|[1-9][0-9]?)`
	m := map[string]*regexp.Regexp{}
	for word, form := range map[string]string{
		"type": `[^ ]+ [^ ]+ ` + number + ` ` + number, "rim": `(` + set + `)`, "base": `(` + set + `)`, "after": `([a-z]) (` + set + `)`,
	} {
		m[word] = regexp.MustCompile(`(?s)\A` + word + ` ` + form + `\z`)
	}
	return m
}

// badLine is the first line of a source that does not have the form due, from 1 on; 0: none; -1: something is missing at the end.
func badLine(forms map[string]*regexp.Regexp, src string) int {
	due, letter := []string{"type"}, ""
	for i, line := range strings.Split(src, "\n") {
		if line == "" || strings.HasPrefix(line, "#") {
			continue
		}
		word, _, _ := strings.Cut(line, " ")
		if !slices.Contains(due, word) {
			return i + 1
		}
		parts := forms[word].FindStringSubmatch(line)
		if parts == nil || slices.Contains(parts, "") {
			return i + 1
		}
		switch word {
		case "type":
			due, letter = []string{"rim"}, ""
		case "rim":
			due = []string{"base"}
		case "base":
			due = []string{"type", "after"}
		case "after":
			if parts[1] <= letter {
				return i + 1
			}
			letter = parts[1]
		}
	}
	if len(due) == 1 && due[0] != "type" {
		return -1
	}
	return 0
}

// wantSource holds ParseTypes of any source against the forms of lines.
func wantSource(t *testing.T, forms map[string]*regexp.Regexp, src string) {
	t.Helper()
	l, f := profile.ParseTypes(src)
	switch bad := badLine(forms, src); {
	case bad != 0:
		if want := (api.Fault{Err: api.ErrForm, Line: max(bad, 0)}); f != want || len(l) > 0 {
			t.Errorf("ParseTypes(%q): %v, %v, want %v", src, l, f, want)
		}
	case f.Err != api.OK:
		if f.Err == api.ErrForm || f.Line != 0 || len(l) > 0 {
			t.Errorf("ParseTypes(%q): %v, %v", src, l, f)
		}
	default:
		if got := profile.PrintTypes(l); got != bareSource(src) || f.Line != 0 || profile.CheckTypes(l) != api.OK {
			t.Errorf("ParseTypes(%q): %v, which is printed as %q", src, l, got)
		}
	}
}

// bareSource is a source without lines that do nothing, all of them with a line feed.
func bareSource(src string) string {
	s := ""
	for _, line := range strings.Split(src, "\n") {
		if line != "" && line[0] != '#' {
			s += line + "\n"
		}
	}
	return s
}

// TestNearSources is D1: sources that are nearly those of types.
func TestNearSources(t *testing.T) {
	forms := lineForms()
	for _, src := range []string{vessels, "type x y 1 12\nrim az\nbase z\nafter a b\nafter z a", "# of z\n\ntype x y 1 2\n#\nrim a\n\nbase a\n\n", "type x y 10 12\nrim bcd\nbase bcd\ntype z y 1 2\nrim a\nbase b\nafter m n\n"} {
		wantSource(t, forms, src)
		for i := range len(src) + 1 {
			for _, c := range []string{" ", "0", "1", "9", "-", "+", "a", "b", "z", "#", "\n", "\t", "\r", "A", "`", "{", "\xff", "٣", "\nafter c d\n", "\nrim a\n", "\n# #\n", "\ntype"} {
				wantSource(t, forms, src[:i]+c+src[i:])
				if i < len(src) {
					wantSource(t, forms, src[:i]+c+src[i+1:])
				}
			}
			wantSource(t, forms, src[:i])
			wantSource(t, forms, src[i:])
		}
		lines := strings.SplitAfter(src, "\n")
		for i := range lines {
			wantSource(t, forms, strings.Join(slices.Concat(lines[:i], lines[i+1:]), ""))
			for j := range lines {
				wantSource(t, forms, strings.Join(slices.Insert(slices.Clone(lines), j, lines[i]), ""))
				other := slices.Clone(lines)
				other[i], other[j] = other[j], other[i]
				wantSource(t, forms, strings.Join(other, ""))
			}
		}
	}
}

// TestFaults is D1: which error a source has, and in which line.
func TestFaults(t *testing.T) {
	whole := "type x y 1 2\nrim a\nbase a\n"
	thirteen := ""
	for i := range 13 {
		thirteen += strings.Replace(whole, "x", "x"+strconv.Itoa(i), 1)
	}
	form := func(line int) api.Fault { return api.Fault{Err: api.ErrForm, Line: line} }
	for src, want := range map[string]api.Fault{
		"": {}, "\n": {}, "#": {}, "#type\n\n\n#": {}, whole: {}, whole[:len(whole)-1]: {}, "# a\n\n" + whole + "\n#": {}, "#" + strings.Repeat("x", 19999): {},
		"#" + strings.Repeat("x", 20000): {Err: api.ErrLimit}, strings.Repeat("\n", 20000): {}, strings.Repeat("\n", 20001): {Err: api.ErrLimit}, strings.Repeat("x", 20001): {Err: api.ErrLimit},
		strings.Repeat("x", 20000): form(1), strings.Repeat("\n", 19999) + "x": form(20000), " ": form(1), "\n\n \n": form(3), " # a": form(1), " " + whole: form(1), "\r\n" + whole: form(1),
		"type x y 1 2": form(0), "type x y 1 2\n": form(0), "type x y 1 2\nrim a": form(0), whole + "type z y 1 2\n": form(0), whole + "#\ntype z y 1 2\nrim b\n#": form(0),
		"base a": form(1), "rim a": form(1), "after a b": form(1), "type": form(1), "type ": form(1), "Type x y 1 2": form(1), "types x y 1 2": form(1),
		"type x y 1 2\ntype x y 1 2": form(2), "type x y 1 2\nbase a": form(2), "type x y 1 2\nafter a b": form(2), "type x y 1 2\nrim a\nrim a": form(3), "type x y 1 2\nrim a\nafter a b": form(3),
		"type x y 1 2\nrim a\ntype z y 1 2": form(3), whole + "rim a": form(4), whole + "base a": form(4), whole + "after b a\nafter a b": form(5), whole + "after b a\nafter b a": form(5), whole + "after z a\n#\nafter y b": form(6),
		whole + "after a": form(4), whole + "after a ": form(4), whole + "after ab c": form(4), whole + "after A b": form(4), whole + "after  b": form(4), whole + "after a b c": form(4), whole + "after { b": form(4), whole + "after ` b": form(4), whole + "after": form(4),
		"type x y 1": form(1), "type x y 1 2 ": form(1), "type x y 1 2 3": form(1), "type x  1 2": form(1), "type  y 1 2": form(1), "type x y  2": form(1), "type x y 01 2": form(1), "type x y 1 02": form(1), "type x y 00 2": form(1),
		"type x y +1 2": form(1), "type x y -1 2": form(1), "type x y -0 2": form(1), "type x y 100 2": form(1), "type x y 1 100": form(1), "type x y 1 0x2": form(1), "type x y 1 1_0": form(1), "type x y a 2": form(1), "type x y 1 99999999999999999999": form(1), "type x y 1 2\r": form(1),
		"type x y 1 2\nrim": form(2), "type x y 1 2\nrim ": form(2), "type x y 1 2\nrim  a": form(2), "type x y 1 2\nrim a b": form(2), "type x y 1 2\nrim aa": form(2), "type x y 1 2\nrim A": form(2), "type x y 1 2\nrim a\nbase ": form(3), "type x y 1 2\nrim a\nbase ba": form(3),
		// What has its form, and still is no list of types.
		"type x y 2 1\nrim a\nbase a": {Err: api.ErrArg}, "type x y 0 1\nrim a\nbase a": {Err: api.ErrArg}, "type x y 1 13\nrim a\nbase a": {Err: api.ErrArg}, "type x y 99 99\nrim a\nbase a": {Err: api.ErrArg},
		"type X y 1 2\nrim a\nbase a": {Err: api.ErrArg}, "type x \xff 1 2\nrim a\nbase a": {Err: api.ErrArg}, "type # y 1 2\nrim a\nbase a": {Err: api.ErrArg}, "type x\ty y 1 2\nrim a\nbase a": {Err: api.ErrArg},
		whole + whole: {Err: api.ErrTwice}, thirteen: {Err: api.ErrLimit}, strings.Replace(thirteen, "x1 ", "X ", 1): {Err: api.ErrLimit}, whole + whole + "type X y 1 2\nrim a\nbase a": {Err: api.ErrTwice},
		// The form comes first.
		whole + whole + "x": form(7), thirteen + "x": form(40), "type X y 2 1\nrim a": form(0), "type X y 2 1\nrim a\nrim a": form(3),
	} {
		if l, f := profile.ParseTypes(src); f != want || f.Err != api.OK && len(l) > 0 {
			t.Errorf("ParseTypes(%.60q): %v, %v, want %v", src, l, f, want)
		}
	}
}

// TestPrint is PrintTypes of D1, and P4.8.
func TestPrint(t *testing.T) {
	x := api.Type{Name: "a-1", Ware: "b", Least: 2, Most: 10, Rim: "az", Base: "m"}
	x.After[0], x.After[25] = "bcz", "a"
	if s := profile.PrintTypes([]api.Type{x}); s != "type a-1 b 2 10\nrim az\nbase m\nafter a bcz\nafter z a\n" {
		t.Errorf("PrintTypes: %q", s)
	}
	var most []api.Type
	for i := range 12 {
		y := full(strings.Repeat("n", 23) + string(rune('a'+i)))
		y.Ware, y.Least = strings.Repeat("w", 24), 12
		most = append(most, y)
	}
	both := func(l []api.Type) {
		s := profile.PrintTypes(l)
		back, f := profile.ParseTypes(s)
		if f != (api.Fault{}) || !slices.Equal(back, l) {
			t.Errorf("PrintTypes(%v): %q, which is read as %v, %v", l, s, back, f)
		}
	}
	both(most)
	both(nil)
	both(whole()[1:])
	eachList(t, 300, both)
	for what, x := range spoilt() {
		if s := profile.PrintTypes([]api.Type{most[0], x}); s != "" {
			t.Errorf("PrintTypes with %s: %q", what, s)
		}
	}
	for _, l := range [][]api.Type{append(slices.Clone(most), least()), {least(), least()}} {
		if s := profile.PrintTypes(l); s != "" {
			t.Errorf("PrintTypes of %d types: %q", len(l), s)
		}
	}
}
