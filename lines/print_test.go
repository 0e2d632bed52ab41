package lines

import (
	"math"
	"math/rand"
	"slices"
	"strings"
	"testing"

	"catnap/api"
	"catnap/conf"
)

// F2: ordinary chips, one of nothing, and one with as much of all as there may be.
func TestPrint(t *testing.T) {
	seePrint(t, chip(), chipText)
	s, text := oneOfEach()
	seePrint(t, s, text)
	seePrint(t, api.Soc{}, "")
	seePrint(t, api.Soc{Clocks: []api.Clock{}, Domains: []api.Domain{}, Resets: []api.Reset{}, Devices: []api.Device{}}, "")
	seePrint(t, api.Soc{Resets: []api.Reset{{Least: 20}, {}, {Least: 20}}}, "reset 20\nreset 0\nreset 20\n")
	seePrint(t, greatest(), slowPrint(greatest()))
	if text, _ := Print(greatest()); len(text) > 8000 {
		t.Errorf("a text of %d bytes cannot be read again", len(text))
	}
	r := rand.New(rand.NewSource(2))
	for range 3000 {
		s := randomChip(r)
		seePrint(t, s, slowPrint(s))
	}
}

// F2: rows of all lengths that they may have.
func TestPrintOfRows(t *testing.T) {
	for many := 1; many <= 4; many++ {
		s, _ := oneOfEach()
		s.Clocks = append(s.Clocks, api.Clock{Kind: 'm', From: make([]int, many)})
		seePrint(t, s, "clock o 5\nclock m"+strings.Repeat(" 0", many)+"\ndomain - 0 lose\nreset 1\ndevice 0 0 0 7\nreg 3 keep\n")
	}
	for many := range 7 {
		s, text := oneOfEach()
		s.Devices = append(s.Devices, api.Device{Needs: make([]int, many)})
		seePrint(t, s, text+"device 0 0 0 0"+strings.Repeat(" 0", many)+"\n")
	}
	for many := range 9 {
		s, text := oneOfEach()
		s.Devices = append(s.Devices, api.Device{Regs: make([]api.Reg, many)})
		seePrint(t, s, text+"device 0 0 0 0\n"+strings.Repeat("reg 0 lose\n", many))
	}
}

// F2: a chip that is not right is not told, whatever is wrong with it.
func TestPrintOfWrong(t *testing.T) {
	for i, spoil := range []func(s *api.Soc){
		func(s *api.Soc) { s.Clocks = make([]api.Clock, 13) },
		func(s *api.Soc) { s.Clocks = slices.Repeat([]api.Clock{{Kind: 'o', Rate: 1}}, 13) },
		func(s *api.Soc) { s.Domains = slices.Repeat([]api.Domain{{Above: -1}}, 7) },
		func(s *api.Soc) { s.Resets = make([]api.Reset, 7) },
		func(s *api.Soc) { s.Devices = make([]api.Device, 7) },
		func(s *api.Soc) { s.Devices[0].Regs = make([]api.Reg, 9) },
		func(s *api.Soc) { s.Devices[0].Needs = slices.Repeat([]int{1}, 7) },
		func(s *api.Soc) { s.Clocks[0].Kind = 'x' },
		func(s *api.Soc) { s.Clocks[0].Kind = 0 },
		func(s *api.Soc) { s.Clocks[0].Kind = '\n' },
		func(s *api.Soc) { s.Clocks[0].From = []int{1} },
		func(s *api.Soc) { s.Clocks[0].Rate = 0 },
		func(s *api.Soc) { s.Clocks[0].Rate = 1<<40 + 1 },
		func(s *api.Soc) { s.Clocks[0].Rate = math.MaxUint64 },
		func(s *api.Soc) { s.Clocks[1].From = nil },
		func(s *api.Soc) { s.Clocks[1].From = []int{0, 0} },
		func(s *api.Soc) { s.Clocks[1].From[0] = -1 },
		func(s *api.Soc) { s.Clocks[1].From[0] = 1 },
		func(s *api.Soc) { s.Clocks[1].Mul = -1 },
		func(s *api.Soc) { s.Clocks[1].Div = 0 },
		func(s *api.Soc) { s.Clocks[1].Lock = 21 },
		func(s *api.Soc) { s.Clocks[2].From = nil },
		func(s *api.Soc) { s.Clocks[2].From = make([]int, 5) },
		func(s *api.Soc) { s.Clocks[3].From = nil },
		func(s *api.Soc) { s.Clocks[3].Div = 1001 },
		func(s *api.Soc) { s.Clocks[4].From = []int{} },
		func(s *api.Soc) { s.Domains[0].Above = -2 },
		func(s *api.Soc) { s.Domains[0].Above = 0 },
		func(s *api.Soc) { s.Domains[0].Delay = 21 },
		func(s *api.Soc) { s.Resets[1].Least = -1 },
		func(s *api.Soc) { s.Devices[2].Clock = 8 },
		func(s *api.Soc) { s.Devices[2].Domain = 3 },
		func(s *api.Soc) { s.Devices[2].Reset = 2 },
		func(s *api.Soc) { s.Devices[2].Needs = []int{3} },
		func(s *api.Soc) { s.Devices[2].Needs = []int{0} },
	} {
		s := chip()
		spoil(&s)
		if conf.Check(s) == api.OK {
			t.Errorf("fault %d is none", i)
		}
		seeNoPrint(t, s)
	}
	const long = 1 << 20
	seeNoPrint(t, api.Soc{Clocks: []api.Clock{{Kind: 'm', From: make([]int, long)}}})
	seeNoPrint(t, api.Soc{Resets: make([]api.Reset, long)})
	seeNoPrint(t, api.Soc{Devices: []api.Device{{Needs: make([]int, long), Regs: make([]api.Reg, long)}}})
}

// F2, F4: fields that a kind has no use for are not told, and are 0 when the text is parsed.
func TestPrintTellsNoOtherFields(t *testing.T) {
	for _, n := range []int{-1, 1, 21, 1001, math.MinInt, math.MaxInt} {
		s := chip()
		for i := range s.Clocks {
			c := &s.Clocks[i]
			if c.Kind != 'o' {
				c.Rate = uint64(n)
			}
			if c.Kind != 'p' {
				c.Mul, c.Lock = n, n
			}
			if c.Kind != 'p' && c.Kind != 'd' {
				c.Div = n
			}
		}
		seePrint(t, s, chipText)
		seeParse(t, chipText, chip(), api.OK)
	}
}

// padded is a chip whose rows have more behind their length, all of it wrong; and what tells whether that is still so.
func padded(s api.Soc) (api.Soc, func() bool) {
	wrongClock, wrongDomain, wrongReset, wrongReg := api.Clock{Kind: 'x'}, api.Domain{Above: 99}, api.Reset{Least: 99}, api.Reg{Reset: 99}
	var asItWas []func() bool
	ints := func(row []int) []int {
		row = append(slices.Clone(row), -9, -9)
		asItWas = append(asItWas, func() bool { return row[len(row)-1] == -9 && row[len(row)-2] == -9 })
		return row[:len(row)-2]
	}
	s = conf.Copy(s)
	for i := range s.Clocks {
		s.Clocks[i].From = ints(s.Clocks[i].From)
	}
	for i := range s.Devices {
		d := &s.Devices[i]
		regs := append(d.Regs, wrongReg)
		asItWas = append(asItWas, func() bool { return regs[len(regs)-1] == wrongReg })
		d.Regs, d.Needs = regs[:len(regs)-1], ints(d.Needs)
	}
	clocks, domains := append(s.Clocks, wrongClock), append(s.Domains, wrongDomain)
	resets, devices := append(s.Resets, wrongReset), append(s.Devices, api.Device{Clock: 99})
	asItWas = append(asItWas, func() bool {
		return show(api.Soc{Clocks: clocks[len(s.Clocks):], Domains: domains[len(s.Domains):], Resets: resets[len(s.Resets):], Devices: devices[len(s.Devices):]}) ==
			show(api.Soc{Clocks: []api.Clock{wrongClock}, Domains: []api.Domain{wrongDomain}, Resets: []api.Reset{wrongReset}, Devices: []api.Device{{Clock: 99}}})
	})
	s = api.Soc{Clocks: clocks[:len(s.Clocks)], Domains: domains[:len(s.Domains)], Resets: resets[:len(s.Resets)], Devices: devices[:len(s.Devices)]}
	return s, func() bool {
		return !slices.ContainsFunc(asItWas, func(same func() bool) bool { return !same() })
	}
}

// P3: Print changes nothing that is handed in, and what lies behind a row's length is neither told nor written into.
func TestPrintChangesNothing(t *testing.T) {
	r := rand.New(rand.NewSource(3))
	each, _ := oneOfEach()
	for _, s := range []api.Soc{{}, each, chip(), greatest(), randomChip(r), randomChip(r), randomChip(r)} {
		p, asItWas := padded(s)
		seePrint(t, p, slowPrint(s))
		seePrint(t, p, slowPrint(s))
		if show(p) != show(s) || !asItWas() {
			t.Errorf("%s is %s now, and behind its rows as it was: %t", show(s), show(p), asItWas())
		}
	}
	p, asItWas := padded(chip())
	p.Devices[2].Needs = append([]int{0}, p.Devices[1].Needs...)
	was := show(p)
	seeNoPrint(t, p)
	if show(p) != was || !asItWas() {
		t.Errorf("%s is %s now", was, show(p))
	}
}

// P3: rows that share what they are made of are told one by one.
func TestPrintOfSharedRows(t *testing.T) {
	from, regs := []int{0, 0, 0, 0}, []api.Reg{{Reset: 1}, {Reset: 2, Retained: true}, {Reset: 3}}
	s := api.Soc{
		Clocks:  []api.Clock{{Kind: 'o', Rate: 8, From: from[:0]}, {Kind: 'd', From: from[:1], Div: 2}, {Kind: 'p', From: from[:1], Mul: 7, Div: 5, Lock: 3}, {Kind: 'm', From: from}},
		Domains: []api.Domain{{Above: -1}},
		Resets:  []api.Reset{{}},
		Devices: []api.Device{{}, {Needs: from[:2], Regs: regs[:2]}, {Needs: from[1:2], Regs: regs[1:]}},
	}
	for range 2 {
		seePrint(t, s, "clock o 8\nclock d 0 2\nclock p 0 7 5 3\nclock m 0 0 0 0\ndomain - 0 lose\nreset 0\n"+
			"device 0 0 0 0\ndevice 0 0 0 0 0 0\nreg 1 lose\nreg 2 keep\ndevice 0 0 0 0 0\nreg 2 keep\nreg 3 lose\n")
	}
}
