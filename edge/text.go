package edge

import (
	"strconv"
	"strings"

	"conjoin/api"
)

// Write returns the string of a pairing.
func Write(p api.Pairing) (string, api.Errno) {
	if !isStretch(p.A, api.MaxCorners) || !isStretch(p.B, api.MaxCorners) || sides(p.A) != sides(p.B) {
		return "", api.ErrArg
	}
	var words []string
	for _, n := range [...]int{p.A.From, p.A.To, p.B.From, p.B.To} {
		words = append(words, strconv.Itoa(n))
	}
	return strings.Join(words, " "), api.OK
}

// Read returns the pairing with a string.
func Read(s string) (api.Pairing, api.Errno) {
	var n [4]int
	words := strings.Split(s, " ")
	if len(words) != len(n) {
		return api.Pairing{}, api.ErrForm
	}
	for i, w := range words {
		n[i], _ = strconv.Atoi(w)
	}
	p := api.Pairing{A: api.Stretch{From: n[0], To: n[1]}, B: api.Stretch{From: n[2], To: n[3]}}
	// What is no number, or one with another spelling, such as 007, does not come back.
	if back, e := Write(p); e != api.OK || back != s {
		return api.Pairing{}, api.ErrForm
	}
	return p, api.OK
}
