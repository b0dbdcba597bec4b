package probe

import (
	"strconv"
	"strings"

	"conjoin/api"
)

// Write returns the line of a probe.
func Write(p api.Probe) (string, api.Errno) {
	if !isProbe(p) {
		return "", api.ErrArg
	}
	words := []string{strconv.Itoa(p.Id), "probe", strconv.Itoa(p.Part), strconv.Itoa(p.Width), strconv.Itoa(p.Cost)}
	return strings.Join(words, " "), api.OK
}

// Read returns the probe with a line.
func Read(line string) (api.Probe, api.Errno) {
	p := read(strings.Split(line, " "))
	// Words that are no numbers are read as well, numbers such as 007 too, and there may be more words.
	if back, e := Write(p); e != api.OK || back != line {
		return api.Probe{}, api.ErrForm
	}
	return p, api.OK
}

// read returns the probe with some words, and any one if these are not those of a probe.
func read(words []string) api.Probe {
	var numbers [5]int
	for i := range min(len(words), len(numbers)) {
		numbers[i], _ = strconv.Atoi(words[i])
	}
	return api.Probe{Id: numbers[0], Part: numbers[2], Width: numbers[3], Cost: numbers[4]}
}
