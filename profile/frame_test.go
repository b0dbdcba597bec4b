package profile

import (
	"slices"
	"testing"

	"conjoin/api"
)

// TestAllWords goes on behind the first word, which no function of the package does.
func TestAllWords(t *testing.T) {
	jar := api.Type{Least: 3, Most: 4, Rim: "ab", Base: "d"}
	jar.After[0], jar.After[1], jar.After[2] = "c", "ce", "cd"
	tall := api.Type{Least: 11, Most: 12, Rim: "a", Base: "b"}
	tall.After[0] = "ab"
	for _, c := range []struct {
		of   api.Type
		want []string
	}{
		{jar, []string{"accd", "acd", "bccd", "bcd"}}, {tall, []string{"aaaaaaaaaaab", "aaaaaaaaaab"}}, {api.Type{Least: 1, Most: 1, Rim: "a", Base: "b"}, nil},
	} {
		f := frameOf(c.of)
		if got := slices.Collect(f.words()); !slices.Equal(got, c.want) {
			t.Errorf("words: %v, want %v", got, c.want)
		}
		for i := range c.want {
			var got []string
			for word := range f.words() {
				if got = append(got, word); len(got) > i {
					break
				}
			}
			if !slices.Equal(got, c.want[:i+1]) {
				t.Errorf("%d words: %v, want %v", i+1, got, c.want[:i+1])
			}
		}
	}
}
