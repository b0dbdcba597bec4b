package oracle

import (
	"math"
	"strings"

	"conjoin/api"
)

// most is a part that has as much as a part can have, from an Id on.
func most(from int) api.Part {
	p := api.Part{Span: api.Span{Low: 1, High: 999, LowBy: api.MaxId, HighBy: 1}, Foot: true, FootBy: api.MaxId}
	for i := range api.MaxSherds {
		p.Sherds = append(p.Sherds, from+i)
	}
	for i := range api.MaxRests {
		p.Rests = append(p.Rests, 1+i)
	}
	return p
}

// good are changes after which Limited is still a case.
func good() map[string]func(c *api.Case) {
	return map[string]func(c *api.Case){
		"as it is":          func(c *api.Case) {},
		"no parts":          func(c *api.Case) { c.Parts = nil },
		"ware z":            func(c *api.Case) { c.Ware = "z" },
		"ware of 24":        func(c *api.Case) { c.Ware = "a-09" + strings.Repeat("z", 20) },
		"no limit":          func(c *api.Case) { c.Limit, c.By = 0, 0 },
		"limit by none":     func(c *api.Case) { c.By = 0 },
		"limit 1":           func(c *api.Case) { c.Limit = 1 },
		"limit 40":          func(c *api.Case) { c.Limit = 40 },
		"by 1":              func(c *api.Case) { c.By = 1 },
		"by a million":      func(c *api.Case) { c.By = 1000000 },
		"40 sherds":         func(c *api.Case) { c.Parts[2] = most(1) },
		"last sherds":       func(c *api.Case) { c.Parts[2] = most(999961) },
		"no record":         func(c *api.Case) { c.Parts[2].Span = api.Span{Low: 3, High: 4}; c.Parts[2].FootBy = 0 },
		"all colours":       func(c *api.Case) { c.Parts[2].Span = api.Span{High: 1000} },
		"the first colour":  func(c *api.Case) { c.Parts[2].Span = api.Span{HighBy: 1} },
		"the last colour":   func(c *api.Case) { c.Parts[2].Span = api.Span{Low: 1000, High: 1000, LowBy: 1} },
		"records of others": func(c *api.Case) { c.Parts[2].Span.LowBy, c.Parts[2].Rests = 1, []int{101, 1000000} },
	}
}

// bad are changes after which it is none.
func bad() map[string]func(c *api.Case) {
	return map[string]func(c *api.Case){
		"no ware":              func(c *api.Case) { c.Ware = "" },
		"ware 9a":              func(c *api.Case) { c.Ware = "9a" },
		"ware -a":              func(c *api.Case) { c.Ware = "-a" },
		"ware A":               func(c *api.Case) { c.Ware = "A" },
		"ware of two words":    func(c *api.Case) { c.Ware = "a b" },
		"ware of other bytes":  func(c *api.Case) { c.Ware = "a\xff" },
		"ware of 25":           func(c *api.Case) { c.Ware = strings.Repeat("a", 25) },
		"no ware, no parts":    func(c *api.Case) { c.Ware, c.Parts = "", nil },
		"limit -1":             func(c *api.Case) { c.Limit = -1 },
		"limit 41":             func(c *api.Case) { c.Limit = 41 },
		"limit far below":      func(c *api.Case) { c.Limit = math.MinInt },
		"limit far above":      func(c *api.Case) { c.Limit = math.MaxInt },
		"by without a limit":   func(c *api.Case) { c.Limit = 0 },
		"by -1":                func(c *api.Case) { c.By = -1 },
		"by -1, no limit":      func(c *api.Case) { c.Limit, c.By = 0, -1 },
		"by too many":          func(c *api.Case) { c.By = 1000001 },
		"no sherds":            func(c *api.Case) { c.Parts[2].Sherds = nil },
		"41 sherds":            func(c *api.Case) { c.Parts[2] = most(1); c.Parts[2].Sherds = append(c.Parts[2].Sherds, 41) },
		"sherd 0":              func(c *api.Case) { c.Parts[2].Sherds = []int{0} },
		"sherd -1":             func(c *api.Case) { c.Parts[2].Sherds = []int{-1} },
		"sherd too great":      func(c *api.Case) { c.Parts[2].Sherds = []int{1000001} },
		"sherds descend":       func(c *api.Case) { c.Parts[2].Sherds = []int{7, 6} },
		"a sherd twice":        func(c *api.Case) { c.Parts[2].Sherds = []int{6, 6} },
		"a sherd in two":       func(c *api.Case) { c.Parts[3].Sherds = []int{5, 103} },
		"sherds far":           func(c *api.Case) { c.Parts[2].Sherds = []int{math.MinInt, math.MaxInt} },
		"201 rests":            func(c *api.Case) { c.Parts[2] = most(1); c.Parts[2].Rests = append(c.Parts[2].Rests, 201) },
		"rest 0":               func(c *api.Case) { c.Parts[2].Rests = []int{0, 1} },
		"rest too great":       func(c *api.Case) { c.Parts[2].Rests = []int{1, 1000001} },
		"rests descend":        func(c *api.Case) { c.Parts[2].Rests = []int{3, 2} },
		"a rest twice":         func(c *api.Case) { c.Parts[2].Rests = []int{3, 3} },
		"low -1":               func(c *api.Case) { c.Parts[2].Span = api.Span{Low: -1, High: 5} },
		"high 1001":            func(c *api.Case) { c.Parts[2].Span = api.Span{Low: 1, High: 1001} },
		"no colour":            func(c *api.Case) { c.Parts[2].Span = api.Span{Low: 5, High: 4} },
		"colours far":          func(c *api.Case) { c.Parts[2].Span = api.Span{Low: math.MinInt, High: math.MaxInt} },
		"low by nature":        func(c *api.Case) { c.Parts[2].Span = api.Span{High: 5, LowBy: 1} },
		"high by nature":       func(c *api.Case) { c.Parts[2].Span = api.Span{High: 1000, HighBy: 1} },
		"low by -1":            func(c *api.Case) { c.Parts[2].Span.LowBy = -1 },
		"high by -1":           func(c *api.Case) { c.Parts[2].Span.HighBy = -1 },
		"low by too many":      func(c *api.Case) { c.Parts[2].Span.LowBy = 1000001 },
		"high by too many":     func(c *api.Case) { c.Parts[2].Span.HighBy = 1000001 },
		"by without a foot":    func(c *api.Case) { c.Parts[2].Foot = false },
		"foot by -1":           func(c *api.Case) { c.Parts[2].FootBy = -1 },
		"foot by too many":     func(c *api.Case) { c.Parts[2].FootBy = 1000001 },
		"the last part":        func(c *api.Case) { c.Parts[3].Sherds = nil },
		"the first part":       func(c *api.Case) { c.Parts[0].Sherds = nil },
		"a part that is empty": func(c *api.Case) { c.Parts[1] = api.Part{} },
	}
}

// Changed calls f with the cases that changes make of Limited, and with what is wrong with them.
func Changed(f func(name string, c api.Case, e api.Errno)) {
	for e, l := range map[api.Errno]map[string]func(*api.Case){api.OK: good(), api.ErrArg: bad()} {
		for name, change := range l {
			c := Limited()
			change(&c)
			f(name, c, e)
		}
	}
}
