package join

import (
	"strconv"
	"strings"

	"conjoin/api"
	"conjoin/edge"
)

// kindWords are the words for the kinds of records.
var kindWords = [...]string{
	api.ClaimBeside:  "beside",
	api.ClaimBelow:   "below",
	api.ClaimConfirm: "confirm",
	api.ClaimDrop:    "drop",
	api.ClaimVoid:    "void",
}

// Write returns the line of a record.
func Write(x api.Claim) (string, api.Errno) {
	if e := CheckClaim(x); e != api.OK {
		return "", e
	}
	line := []string{strconv.Itoa(x.Id), strconv.Itoa(x.Known), kindWords[x.Kind]}
	if isClaim(x) {
		sides, _ := edge.Write(pairing(x))
		line = append(line, strconv.Itoa(x.A), strconv.Itoa(x.B), sides)
	} else {
		line = append(line, strconv.Itoa(x.Of))
	}
	return strings.Join(line, " "), api.OK
}

// Read returns the record with a line.
func Read(line string) (x api.Claim, e api.Errno) {
	defer func() {
		if recover() != nil {
			x, e = api.Claim{}, api.ErrForm
		}
	}()
	y := words(strings.Split(line, " ")).claim()
	// Words that are read in one way alone still have other spellings, such as 007, and may have more behind them.
	if back, e := Write(y); e != api.OK || back != line {
		return api.Claim{}, api.ErrForm
	}
	return y, api.OK
}

// words are the words of a line. Their methods panic where one is not as it has to be.
type words []string

// badWord is what the panic for a word carries: its index.
type badWord int

func (w words) word(i int) string {
	if i >= len(w) {
		panic(badWord(i))
	}
	return w[i]
}

func (w words) number(i int) int {
	n, err := strconv.Atoi(w.word(i))
	if err != nil {
		panic(badWord(i))
	}
	return n
}

func (w words) kind(i int) uint8 {
	for kind, word := range kindWords {
		if word == w.word(i) {
			return uint8(kind)
		}
	}
	panic(badWord(i))
}

func (w words) claim() api.Claim {
	x := api.Claim{Id: w.number(0), Known: w.number(1), Kind: w.kind(2)}
	if !isClaim(x) {
		x.Of = w.number(3)
		return x
	}
	x.A, x.B = w.number(3), w.number(4)
	p, e := edge.Read(strings.Join(w[5:], " "))
	if e != api.OK {
		panic(badWord(5))
	}
	x.SideA, x.SideB = p.A, p.B
	return x
}
