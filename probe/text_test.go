package probe_test

import (
	"math"
	"strings"
	"testing"

	"conjoin/api"
	"conjoin/probe"
)

// TestLines is I11.
func TestLines(t *testing.T) {
	for line, p := range map[string]api.Probe{
		"31 probe 1 12 1":           {Id: 31, Part: 1, Width: 12, Cost: 1},
		"1 probe 0 1 1":             {Id: 1, Part: 0, Width: 1, Cost: 1},
		"1000000 probe 7 1001 1000": {Id: 1000000, Part: 7, Width: 1001, Cost: 1000},
		"23 probe 4 567 89":         {Id: 23, Part: 4, Width: 567, Cost: 89},
		"23 probe 5 4 67":           {Id: 23, Part: 5, Width: 4, Cost: 67},
	} {
		want(t, line, all(probe.Write(p)), all(line, api.OK))
		want(t, line, all(probe.Read(line)), all(p, api.OK))
	}
	good := api.Probe{Id: 31, Part: 1, Width: 12, Cost: 1}
	for _, change := range []func(p *api.Probe, n int){
		func(p *api.Probe, n int) { p.Id = n }, func(p *api.Probe, n int) { p.Part = n }, func(p *api.Probe, n int) { p.Width = n }, func(p *api.Probe, n int) { p.Cost = n },
	} {
		for _, n := range []int{-1, 1000001, math.MinInt, math.MaxInt} {
			p := good
			change(&p, n)
			want(t, p, all(probe.Write(p)), all("", api.ErrArg))
		}
	}
	for _, p := range []api.Probe{
		{}, {Part: 1, Width: 12, Cost: 1}, {Id: 31, Part: 8, Width: 12, Cost: 1}, {Id: 31, Part: 1, Cost: 1}, {Id: 31, Part: 1, Width: 1002, Cost: 1}, {Id: 31, Part: 1, Width: 12}, {Id: 31, Part: 1, Width: 12, Cost: 1001},
	} {
		want(t, p, all(probe.Write(p)), all("", api.ErrArg))
	}
}

// TestInverse is P9.8, and lines that are nearly those of probes.
func TestInverse(t *testing.T) {
	d := newDice(31)
	good := []api.Probe{{Id: 1000000, Part: 7, Width: 1001, Cost: 1000}, {Id: 1, Part: 0, Width: 1, Cost: 1}}
	for range 30 {
		good = append(good, api.Probe{Id: 1 + d.IntN(1000000), Part: d.IntN(8), Width: 1 + d.IntN(1001), Cost: 1 + d.IntN(1000)})
	}
	for _, p := range good {
		line, e := probe.Write(p)
		want(t, p, all(e), all(api.OK))
		want(t, line, all(probe.Read(line)), all(p, api.OK))
		for _, near := range nearby(line) {
			q, e := probe.Read(near)
			if e != api.OK {
				want(t, near, all(q, e), all(api.Probe{}, api.ErrForm))
				continue
			}
			want(t, near, all(probe.Write(q)), all(near, api.OK))
		}
	}
}

// nearby are lines with a byte less, a byte more, or another byte.
func nearby(line string) []string {
	var l []string
	for i := range len(line) + 1 {
		for _, c := range []string{" ", "0", "7", "-", "+", "a", "probe", "\n", "\t", "\r", "_", "x", "\xff", "٣"} {
			l = append(l, line[:i]+c+line[i:])
			if i < len(line) {
				l = append(l, line[:i]+c+line[i+1:])
			}
		}
		if i < len(line) {
			l = append(l, line[:i]+line[i+1:], line[:i])
		}
	}
	return append(l, line+line, line+" 5", strings.ToUpper(line), strings.ReplaceAll(line, " ", "  "))
}

// TestNoLines is Read of what is no line of a probe.
func TestNoLines(t *testing.T) {
	for _, line := range []string{
		"", " ", "31", "31 probe", "31 probe 1", "31 probe 1 12", "31 probe 1 12 ", "31 probe 1 12 1 ", " 31 probe 1 12 1", "31  probe 1 12 1", "31 probe 1 12 1\n", "31 probe 1 12 1 1", "31 1 12 1",
		"31 probes 1 12 1", "31 Probe 1 12 1", "31 prob 1 12 1", "31  1 12 1", "31 31 1 12 1", "probe 31 1 12 1", "probe", "31 probe 1 12 probe", "31 way 1 12 1",
		"031 probe 1 12 1", "31 probe 01 12 1", "31 probe 1 012 1", "31 probe 1 12 01", "+31 probe 1 12 1", "31 probe +1 12 1", "31 probe -0 12 1", "31 probe 1 0x2 1", "31 probe 1 1_2 1",
		"0 probe 1 12 1", "-1 probe 1 12 1", "1000001 probe 1 12 1", "31 probe 8 12 1", "31 probe -1 12 1", "31 probe 1 0 1", "31 probe 1 1002 1", "31 probe 1 -1 1", "31 probe 1 12 0", "31 probe 1 12 1001", "31 probe 1 12 -1",
		"31 probe x 12 1", "x probe 1 12 1", "31 probe 1 x 1", "31 probe 1 12 x", "31 probe  12 1", "31 probe 1 12 99999999999999999999", "99999999999999999999 probe 1 12 1", strings.Repeat("31 probe 1 12 1 ", 1000),
	} {
		want(t, line, all(probe.Read(line)), all(api.Probe{}, api.ErrForm))
	}
}
