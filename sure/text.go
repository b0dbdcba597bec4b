package sure

import (
	"slices"
	"strings"

	"conjoin/api"
)

// signs has at the place of each kind of branches the sign that stands between its parts.
const signs = " /=#+"

// named returns the parts that a branch names; false if it has no word.
func named(b api.Branch) ([]int, bool) {
	parts := []int{b.A, b.B}
	switch b.Kind {
	case api.BranchSplit, api.LeafClash, api.LeafApart:
		if len(b.Many) > 0 {
			return nil, false
		}
	case api.LeafMany:
		if b.A != 0 || b.B != 0 || !within(len(b.Many), 2, api.MaxParts) {
			return nil, false
		}
		parts = b.Many
	default:
		return nil, false
	}
	return parts, !slices.ContainsFunc(parts, func(p int) bool { return !within(p, 0, api.MaxParts-1) })
}

// write returns the word of a branch.
func write(b api.Branch) (string, bool) {
	parts, ok := named(b)
	if !ok {
		return "", false
	}
	var word []byte
	for _, p := range parts {
		word = append(word, '0'+byte(p), signs[b.Kind])
	}
	return string(word[:len(word)-1]), true
}

// branch returns the branch with a word.
func branch(word string) (api.Branch, bool) {
	if !within(len(word), len("0/0"), len("0+1+2+3+4+5+6+7")) {
		return api.Branch{}, false
	}
	var parts []int
	for i := 0; i < len(word); i += 2 {
		parts = append(parts, int(word[i])-'0')
	}
	b := api.Branch{Kind: uint8(strings.IndexByte(signs, word[1]))}
	if b.Kind == api.LeafMany {
		b.Many = parts
	} else {
		b.A, b.B = parts[0], parts[1]
	}
	// What was read may be no branch, and the word may have more than was read.
	back, ok := write(b)
	return b, ok && back == word
}

// WriteRefute returns the string of a list of branches.
func WriteRefute(r []api.Branch) (string, api.Errno) {
	if len(r) > api.MaxBranches {
		return "", api.ErrLimit
	}
	var words []string
	for _, b := range r {
		word, ok := write(b)
		if !ok {
			return "", api.ErrArg
		}
		words = append(words, word)
	}
	return strings.Join(words, " "), api.OK
}

// ReadRefute returns the branches with a string.
func ReadRefute(s string) ([]api.Branch, api.Errno) {
	if s == "" {
		return nil, api.OK
	}
	var r []api.Branch
	// The last word has all that is behind too many branches, and is none then.
	for _, word := range strings.SplitN(s, " ", api.MaxBranches) {
		b, ok := branch(word)
		if !ok {
			return nil, api.ErrForm
		}
		r = append(r, b)
	}
	return r, api.OK
}
