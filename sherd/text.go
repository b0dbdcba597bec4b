package sherd

import (
	"strconv"
	"strings"

	"conjoin/api"
)

// kindWords are the words for the kinds of items.
var kindWords = [...]string{
	api.ItemSherd:  "sherd",
	api.ItemWay:    "way",
	api.ItemTurn:   "turn",
	api.ItemColour: "colour",
	api.ItemCurve:  "curve",
	api.ItemLimit:  "limit",
	api.ItemVoid:   "void",
}

// Write returns the line of an item.
func Write(x api.Item) (string, api.Errno) {
	if e := CheckItem(x); e != api.OK {
		return "", e
	}
	line := numbers(x.Id, x.Known) + " " + kindWords[x.Kind] + " "
	switch x.Kind {
	case api.ItemSherd:
		line += x.Ware + " " + numbers(x.Pit, x.Layer, x.Corners)
		if x.Foot {
			line += " foot"
		}
	case api.ItemWay, api.ItemTurn:
		line += numbers(x.Sherd, x.From, x.To, x.Low, x.High)
	case api.ItemColour:
		line += numbers(x.Sherd, x.Low, x.High)
	case api.ItemCurve:
		line += numbers(x.Sherd) + " " + x.Set
	case api.ItemLimit:
		line += x.Ware + " " + numbers(x.Limit)
	case api.ItemVoid:
		line += numbers(x.Of)
	}
	return line, api.OK
}

func numbers(list ...int) string {
	var words []string
	for _, n := range list {
		words = append(words, strconv.Itoa(n))
	}
	return strings.Join(words, " ")
}

// Read returns the item with a line.
func Read(line string) (x api.Item, e api.Errno) {
	defer func() {
		if recover() != nil {
			x, e = api.Item{}, api.ErrForm
		}
	}()
	y := words(strings.Split(line, " ")).item()
	// Words that are read in one way alone still have other spellings, such as 007, and may have more behind them.
	if back, e := Write(y); e != api.OK || back != line {
		return api.Item{}, api.ErrForm
	}
	return y, api.OK
}

// words are the words of a line. Their methods panic where one is not as it has to be.
type words []string

// badWord is what the panic for a word carries: its index.
type badWord int

func (w words) word(i int) string {
	if i >= len(w) {
		panic(badWord(i))
	}
	return w[i]
}

func (w words) number(i int) int {
	n, err := strconv.Atoi(w.word(i))
	if err != nil {
		panic(badWord(i))
	}
	return n
}

func (w words) item() api.Item {
	read := map[string]func(words) api.Item{
		kindWords[api.ItemSherd]:  words.sherd,
		kindWords[api.ItemWay]:    words.way,
		kindWords[api.ItemTurn]:   words.turn,
		kindWords[api.ItemColour]: words.colour,
		kindWords[api.ItemCurve]:  words.curve,
		kindWords[api.ItemLimit]:  words.limit,
		kindWords[api.ItemVoid]:   words.void,
	}[w.word(2)]
	if read == nil {
		panic(badWord(2))
	}
	x := read(w)
	x.Id, x.Known = w.number(0), w.number(1)
	return x
}

func (w words) sherd() api.Item {
	foot := len(w) > 7 && w[7] == "foot"
	return api.Item{Kind: api.ItemSherd, Ware: w.word(3), Pit: w.number(4), Layer: w.number(5), Corners: w.number(6), Foot: foot}
}

func (w words) way() api.Item { return w.between(api.ItemWay) }

func (w words) turn() api.Item { return w.between(api.ItemTurn) }

func (w words) between(kind uint8) api.Item {
	return api.Item{Kind: kind, Sherd: w.number(3), From: w.number(4), To: w.number(5), Low: w.number(6), High: w.number(7)}
}

func (w words) colour() api.Item {
	return api.Item{Kind: api.ItemColour, Sherd: w.number(3), Low: w.number(4), High: w.number(5)}
}

func (w words) curve() api.Item {
	return api.Item{Kind: api.ItemCurve, Sherd: w.number(3), Set: w.word(4)}
}

func (w words) limit() api.Item {
	return api.Item{Kind: api.ItemLimit, Ware: w.word(3), Limit: w.number(4)}
}

func (w words) void() api.Item { return api.Item{Kind: api.ItemVoid, Of: w.number(3)} }
