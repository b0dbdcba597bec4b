package profile

import (
	"strconv"
	"strings"

	"conjoin/api"
)

// ParseTypes returns the types with a source, or what is wrong with it.
func ParseTypes(src string) ([]api.Type, api.Fault) {
	if len(src) > api.MaxSource {
		return nil, api.Fault{Err: api.ErrLimit}
	}
	var r reader
	for i, line := range strings.Split(src, "\n") {
		if !r.reads(line) {
			return nil, api.Fault{Err: api.ErrForm, Line: i + 1}
		}
	}
	if r.lacks() != "" {
		return nil, api.Fault{Err: api.ErrForm}
	}
	if e := CheckTypes(r.types); e != api.OK {
		return nil, api.Fault{Err: e}
	}
	return r.types, api.Fault{}
}

// reader has the types that were read so far; the last one may lack its rim or its base. Its methods for lines panic for one without the form due.
type reader struct{ types []api.Type }

// badLine is what the panic for a line carries.
type badLine struct{}

func need(ok bool) {
	if !ok {
		panic(badLine{})
	}
}

// reads reads a line, and reports whether it has the form due.
func (r *reader) reads(line string) (ok bool) {
	if line == "" || line[0] == '#' {
		return true
	}
	defer func() {
		if recover() != nil {
			ok = false
		}
	}()
	words := strings.Split(line, " ")
	read := map[string]func(*reader, []string){
		"type":  (*reader).head,
		"rim":   (*reader).rim,
		"base":  (*reader).base,
		"after": (*reader).after,
	}[words[0]]
	need(read != nil)
	read(r, words[1:])
	return true
}

// lacks returns the word of the line that the last type lacks; none if it is whole, or there is none.
func (r *reader) lacks() string {
	switch {
	case len(r.types) == 0:
		return ""
	case r.last().Rim == "":
		return "rim"
	case r.last().Base == "":
		return "base"
	}
	return ""
}

func (r *reader) last() *api.Type { return &r.types[len(r.types)-1] }

func (r *reader) head(words []string) {
	need(r.lacks() == "" && len(words) == 4 && words[0] != "" && words[1] != "")
	r.types = append(r.types, api.Type{Name: words[0], Ware: words[1], Least: number(words[2]), Most: number(words[3])})
}

func (r *reader) rim(words []string) {
	need(r.lacks() == "rim" && len(words) == 1)
	r.last().Rim = letters(words[0])
}

func (r *reader) base(words []string) {
	need(r.lacks() == "base" && len(words) == 1)
	r.last().Base = letters(words[0])
}

func (r *reader) after(words []string) {
	need(r.lacks() == "" && len(r.types) > 0 && len(words) == 2 && len(words[0]) == 1)
	c := letters(words[0])[0] - 'a'
	// The lines are by ascending letter, so that nothing is there yet from this one on.
	need(strings.Join(r.last().After[c:], "") == "")
	r.last().After[c] = letters(words[1])
}

// number returns the number of 1 or 2 digits that a word is.
func number(word string) int {
	n, err := strconv.Atoi(word)
	need(err == nil && 0 <= n && n <= 99 && strconv.Itoa(n) == word)
	return n
}

// letters returns a word that is classes, strictly ascending.
func letters(word string) string {
	need(word != "" && word == inOrder(word))
	return word
}

// PrintTypes returns the source of types; none if something is wrong with them.
func PrintTypes(l []api.Type) string {
	if CheckTypes(l) != api.OK {
		return ""
	}
	var src strings.Builder
	line := func(words ...string) { src.WriteString(strings.Join(words, " ") + "\n") }
	for _, t := range l {
		line("type", t.Name, t.Ware, strconv.Itoa(t.Least), strconv.Itoa(t.Most))
		line("rim", t.Rim)
		line("base", t.Base)
		for c, s := range t.After {
			if s != "" {
				line("after", string(rune('a'+c)), s)
			}
		}
	}
	return src.String()
}
