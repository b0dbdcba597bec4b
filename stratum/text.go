package stratum

import (
	"slices"
	"strconv"
	"strings"

	"conjoin/api"
)

// kindWords are the words for the kinds of traces.
var kindWords = [...]string{
	api.TraceAbove: "above",
	api.TraceDated: "dated",
	api.TraceMoved: "moved",
	api.TraceVoid:  "void",
}

// Write returns the line of a trace.
func Write(x api.Trace) (string, api.Errno) {
	if e := CheckTrace(x); e != api.OK {
		return "", e
	}
	line := []string{strconv.Itoa(x.Id), strconv.Itoa(x.Known), kindWords[x.Kind]}
	for _, field := range fields(&x) {
		line = append(line, strconv.Itoa(*field))
	}
	return strings.Join(line, " "), api.OK
}

// Read returns the trace with a line.
func Read(line string) (api.Trace, api.Errno) {
	x := read(strings.Split(line, " "))
	// Words that are read in one way alone still have other spellings, such as 007, and may have more behind them.
	if back, e := Write(x); e != api.OK || back != line {
		return api.Trace{}, api.ErrForm
	}
	return x, api.OK
}

// kindOf returns the kind with a word, 0 if there is none.
func kindOf(word string) uint8 {
	for kind, w := range kindWords {
		if w == word {
			return uint8(kind)
		}
	}
	return 0
}

// read returns the trace with some words, behind which there may be more; the zero one, which is not well-formed, if they are too few, or no numbers.
func read(words []string) api.Trace {
	if len(words) < 3 {
		return api.Trace{}
	}
	x := api.Trace{Kind: kindOf(words[2])}
	into := append([]*int{&x.Id, &x.Known}, fields(&x)...)
	numbers := slices.Delete(words, 2, 3)
	if len(numbers) < len(into) {
		return api.Trace{}
	}
	for i, field := range into {
		n, err := strconv.Atoi(numbers[i])
		if err != nil {
			return api.Trace{}
		}
		*field = n
	}
	return x
}
