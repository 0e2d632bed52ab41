package conf

import (
	"math"
	"math/rand"
	"reflect"
	"slices"
	"testing"

	"catnap/api"
	"catnap/graph"
)

// D2: ordinary chips, and nothing at all.
func TestCheckOfRight(t *testing.T) {
	seeCheck(t, chip(), api.OK)
	seeCheck(t, oneOfEach(), api.OK)
	seeCheck(t, api.Soc{}, api.OK)
	seeCheck(t, api.Soc{Clocks: []api.Clock{}, Domains: []api.Domain{}, Resets: []api.Reset{}, Devices: []api.Device{}}, api.OK)
	seeCheck(t, api.Soc{Clocks: []api.Clock{{Kind: 'g', From: []int{0}}}}, api.ErrCycle)
	r := rand.New(rand.NewSource(1))
	for range 2000 {
		seeCheck(t, randomChip(r), api.OK)
	}
}

// D2: as many parts as there may be, and one more, and many more.
func TestCheckOfMany(t *testing.T) {
	for _, c := range []struct {
		most int
		fill func(s *api.Soc, many int)
	}{
		{12, func(s *api.Soc, many int) { s.Clocks = slices.Repeat(s.Clocks, many) }},
		{6, func(s *api.Soc, many int) { s.Domains = slices.Repeat(s.Domains, many) }},
		{6, func(s *api.Soc, many int) { s.Resets = slices.Repeat(s.Resets, many) }},
		{6, func(s *api.Soc, many int) { s.Devices = slices.Repeat(s.Devices, many) }},
		{8, func(s *api.Soc, many int) { s.Devices[0].Regs = make([]api.Reg, many) }},
		{6, func(s *api.Soc, many int) {
			s.Devices = make([]api.Device, 2)
			s.Devices[1].Needs = make([]int, many)
		}},
		{6, func(s *api.Soc, many int) {
			s.Devices = make([]api.Device, 6)
			s.Devices[0].Needs = slices.Repeat([]int{1}, many)
		}},
	} {
		for _, many := range []int{1, 2, c.most - 1, c.most, c.most + 1, c.most + 2, 2 * c.most, 100, 101, 1 << 12} {
			s, want := oneOfEach(), api.OK
			if c.fill(&s, many); many > c.most {
				want = api.ErrFull
			}
			seeCheck(t, s, want)
		}
	}
	most := api.Soc{Clocks: slices.Repeat(oneOfEach().Clocks, 12), Domains: make([]api.Domain, 6), Resets: make([]api.Reset, 6), Devices: make([]api.Device, 6)}
	for i := range 6 {
		most.Domains[i].Above = i - 1
		most.Devices[i] = api.Device{Clock: 11 - i, Domain: i, Reset: 5 - i, Regs: make([]api.Reg, 8)}
		if i > 0 {
			most.Devices[i].Needs = slices.Repeat([]int{i - 1}, 6)
		}
	}
	seeCheck(t, most, api.OK)
}

// D2: each kind, and what is none, with each number of From.
func TestCheckOfKinds(t *testing.T) {
	right := map[byte][]int{'o': {0}, 'p': {1}, 'm': {1, 2, 3, 4}, 'd': {1}, 'g': {1}}
	for kind := range 256 {
		for _, many := range []int{0, 1, 2, 3, 4, 5, 6, 12, 100, 1 << 12} {
			s, want := oneOfEach(), api.ErrArg
			if slices.Contains(right[byte(kind)], many) {
				want = api.OK
			}
			c := api.Clock{Kind: byte(kind), From: make([]int, many), Rate: 1, Mul: 1, Div: 1}
			s.Clocks = append(s.Clocks, c)
			seeCheck(t, s, want)
			if many == 0 {
				s.Clocks[1].From = nil
				seeCheck(t, s, want)
			}
		}
	}
}

// D2: of each number that is bounded: its bounds, and what is just below and just above them, and far out.
func TestCheckOfBounds(t *testing.T) {
	for _, c := range []struct {
		least, most int
		err         api.Errno
		set         func(s *api.Soc, n int)
	}{
		{1, 1000, api.ErrRange, func(s *api.Soc, n int) { s.Clocks[1].Mul = n }},
		{1, 1000, api.ErrRange, func(s *api.Soc, n int) { s.Clocks[1].Div = n }},
		{0, 20, api.ErrRange, func(s *api.Soc, n int) { s.Clocks[1].Lock = n }},
		{1, 1000, api.ErrRange, func(s *api.Soc, n int) { s.Clocks[3].Div = n }},
		{0, 20, api.ErrRange, func(s *api.Soc, n int) { s.Domains[0].Delay = n }},
		{0, 20, api.ErrRange, func(s *api.Soc, n int) { s.Domains[2].Delay = n }},
		{0, 20, api.ErrRange, func(s *api.Soc, n int) { s.Resets[0].Least = n }},
		{0, 20, api.ErrRange, func(s *api.Soc, n int) { s.Resets[1].Least = n }},
		{0, 6, api.ErrNode, func(s *api.Soc, n int) { s.Devices[0].Clock = n }},
		{0, 2, api.ErrNode, func(s *api.Soc, n int) { s.Devices[0].Domain = n }},
		{0, 1, api.ErrNode, func(s *api.Soc, n int) { s.Devices[0].Reset = n }},
		{0, 6, api.ErrNode, func(s *api.Soc, n int) { s.Devices[2].Clock = n }},
		{0, 2, api.ErrNode, func(s *api.Soc, n int) { s.Devices[2].Domain = n }},
		{0, 1, api.ErrNode, func(s *api.Soc, n int) { s.Devices[2].Reset = n }},
	} {
		for _, n := range append([]int{c.least - 1, c.least, c.least + 1, c.most - 1, c.most, c.most + 1}, farOut...) {
			s, want := chip(), api.OK
			if n < c.least || n > c.most {
				want = c.err
			}
			c.set(&s, n)
			seeCheck(t, s, want)
		}
	}
}

// D2: the Rate of an oscillator, of 64 bits without a sign.
func TestCheckOfRates(t *testing.T) {
	for n, want := range map[uint64]api.Errno{
		0: api.ErrRange, 1: api.OK, 2: api.OK, 1 << 32: api.OK, 1<<40 - 1: api.OK, 1 << 40: api.OK, 1<<40 + 1: api.ErrRange,
		1 << 41: api.ErrRange, 1 << 63: api.ErrRange, 1<<63 + 1: api.ErrRange, math.MaxUint64: api.ErrRange,
	} {
		for _, i := range []int{0, 6} {
			s := chip()
			s.Clocks[i].Rate = n
			seeCheck(t, s, want)
		}
	}
}

// D2: what a part hangs on: itself, another one, none that there is; and the domain above which there is none.
func TestCheckOfNodes(t *testing.T) {
	for _, c := range []struct {
		itself, parts int
		right         []int
		set           func(s *api.Soc, n int)
	}{
		{5, 7, []int{0, 1, 2, 3, 4, 6}, func(s *api.Soc, n int) { s.Clocks[5].From[0] = n }},
		{2, 7, []int{0, 1, 5, 6}, func(s *api.Soc, n int) { s.Clocks[2].From[0] = n }},
		{2, 7, []int{0, 1, 5, 6}, func(s *api.Soc, n int) { s.Clocks[2].From[1] = n }},
		{2, 7, []int{0, 1, 5, 6}, func(s *api.Soc, n int) { s.Clocks[2].From = []int{6, 0, 1, n} }},
		{2, 3, []int{-1, 0, 1}, func(s *api.Soc, n int) { s.Domains[2].Above = n }},
		{0, 3, []int{-1}, func(s *api.Soc, n int) { s.Domains[0].Above = n }},
		{0, 3, []int{1, 2}, func(s *api.Soc, n int) { s.Devices[0].Needs[0] = n }},
		{0, 3, []int{1, 2}, func(s *api.Soc, n int) { s.Devices[0].Needs[2] = n }},
		{0, 3, []int{1, 2}, func(s *api.Soc, n int) { s.Devices[0].Needs = []int{1, 1, 2, 2, 1, n} }},
		{2, 3, nil, func(s *api.Soc, n int) { s.Devices[2].Needs = []int{n} }},
	} {
		for _, n := range append([]int{-1, 0, 1, 2, 3, 4, 5, 6, 7, 8}, farOut...) {
			s, want := chip(), api.ErrCycle
			switch c.set(&s, n); {
			case slices.Contains(c.right, n):
				want = api.OK
			case n < 0 || n >= c.parts:
				want = api.ErrNode
			}
			seeCheck(t, s, want)
		}
	}
}

// D2: nothing is a node where there is no part of that kind.
func TestCheckOfNoParts(t *testing.T) {
	for _, empty := range []func(s *api.Soc){
		func(s *api.Soc) { s.Clocks = nil },
		func(s *api.Soc) { s.Domains = nil },
		func(s *api.Soc) { s.Resets = nil },
		func(s *api.Soc) { s.Clocks, s.Domains, s.Resets = nil, nil, nil },
	} {
		s := oneOfEach()
		empty(&s)
		seeCheck(t, s, api.ErrNode)
		s.Devices = nil
		seeCheck(t, s, api.OK)
	}
}

// D2: circles of all lengths, with and without others that hang on them.
func TestCheckOfCircles(t *testing.T) {
	for many := 1; many <= 12; many++ {
		for spare := 0; many+spare <= 12; spare++ {
			s := api.Soc{}
			for i := range many {
				s.Clocks = append(s.Clocks, api.Clock{Kind: "pdg"[i%3], From: []int{(i + 1) % many}, Mul: 1, Div: 1})
			}
			for range spare {
				s.Clocks = append(s.Clocks, api.Clock{Kind: 'g', From: []int{many - 1}})
			}
			seeCheck(t, s, api.ErrCycle)
			s.Clocks[0] = api.Clock{Kind: 'o', Rate: 1}
			seeCheck(t, s, api.OK)
			s.Clocks[many-1] = api.Clock{Kind: 'm', From: []int{0, 0, 0, many - 1}}
			seeCheck(t, s, api.ErrCycle)
		}
	}
	for many := 1; many <= 6; many++ {
		for spare := 0; many+spare <= 6; spare++ {
			s := oneOfEach()
			s.Domains, s.Devices = nil, make([]api.Device, many+spare)
			for i := range many {
				s.Domains = append(s.Domains, api.Domain{Above: (i + 1) % many})
				s.Devices[i].Needs = []int{(i + 1) % many}
			}
			for i := range spare {
				s.Domains = append(s.Domains, api.Domain{Above: i})
				s.Devices[many+i].Needs = []int{0, i}
			}
			seeCheck(t, s, api.ErrCycle)
			s.Domains[many-1].Above = -1
			seeCheck(t, s, api.ErrCycle)
			s.Devices[many-1].Needs = nil
			seeCheck(t, s, api.OK)
			s.Domains[many-1].Above = 0
			seeCheck(t, s, api.ErrCycle)
		}
	}
}

// D2: fields that a Kind has no use for are not looked at, nor are those that have no bounds.
func TestCheckLooksAtNoOtherFields(t *testing.T) {
	for _, n := range append([]int{-1, 0, 21, 1000}, farOut...) {
		s := chip()
		for i := range s.Clocks {
			c := &s.Clocks[i]
			if c.Kind != 'p' {
				c.Mul, c.Lock = n, n
			}
			if c.Kind != 'p' && c.Kind != 'd' {
				c.Div = n
			}
			if c.Kind != 'o' {
				c.Rate = uint64(n)
			}
		}
		for i := range s.Devices {
			s.Devices[i].Clamp = uint32(n)
			s.Devices[i].Regs = []api.Reg{{Reset: uint32(n), Retained: true}, {Reset: math.MaxUint32}}
		}
		for i := range s.Domains {
			s.Domains[i].Ret = n < 0
		}
		seeCheck(t, s, api.OK)
	}
}

// fault is something wrong that is made in a right chip.
type fault struct {
	err  api.Errno
	make func(s *api.Soc)
}

// faults stand in the chapter's order; any of them can be made together, in any order.
func faults() []fault {
	return []fault{
		{api.ErrFull, func(s *api.Soc) { s.Clocks = append(s.Clocks, slices.Repeat(oneOfEach().Clocks, 6)...) }},
		{api.ErrFull, func(s *api.Soc) { s.Domains = append(s.Domains, make([]api.Domain, 4)...) }},
		{api.ErrFull, func(s *api.Soc) { s.Resets = append(s.Resets, make([]api.Reset, 5)...) }},
		{api.ErrFull, func(s *api.Soc) { s.Devices = append(s.Devices, make([]api.Device, 4)...) }},
		{api.ErrFull, func(s *api.Soc) { s.Devices[2].Regs = make([]api.Reg, 9) }},
		{api.ErrFull, func(s *api.Soc) { s.Devices[2].Needs = make([]int, 7) }},
		{api.ErrArg, func(s *api.Soc) { s.Clocks[0].Kind = 'x' }},
		{api.ErrRange, func(s *api.Soc) { s.Clocks[0].Rate = 0 }},
		{api.ErrArg, func(s *api.Soc) { s.Clocks[1].From = append(s.Clocks[1].From, 0) }},
		{api.ErrNode, func(s *api.Soc) { s.Clocks[1].From[0] = 99 }},
		{api.ErrRange, func(s *api.Soc) { s.Clocks[1].Mul = 0 }},
		{api.ErrRange, func(s *api.Soc) { s.Clocks[1].Div = 1001 }},
		{api.ErrRange, func(s *api.Soc) { s.Clocks[1].Lock = 21 }},
		{api.ErrArg, func(s *api.Soc) { s.Clocks[2].From = append(s.Clocks[2].From, 0, 0, 0) }},
		{api.ErrNode, func(s *api.Soc) { s.Clocks[2].From[1] = -1 }},
		{api.ErrArg, func(s *api.Soc) { s.Clocks[3].Kind = 0 }},
		{api.ErrNode, func(s *api.Soc) { s.Clocks[3].From[0] = 99 }},
		{api.ErrRange, func(s *api.Soc) { s.Clocks[3].Div = 0 }},
		{api.ErrArg, func(s *api.Soc) { s.Clocks[4].From = append(s.Clocks[4].From, 0) }},
		{api.ErrNode, func(s *api.Soc) { s.Clocks[4].From[0] = math.MinInt }},
		{api.ErrArg, func(s *api.Soc) { s.Clocks[6].From = []int{99} }},
		{api.ErrRange, func(s *api.Soc) { s.Clocks[6].Rate = math.MaxUint64 }},
		{api.ErrCycle, func(s *api.Soc) { s.Clocks[5].From[0] = 5 }},
		{api.ErrNode, func(s *api.Soc) { s.Domains[0].Above = 77 }},
		{api.ErrRange, func(s *api.Soc) { s.Domains[0].Delay = -1 }},
		{api.ErrNode, func(s *api.Soc) { s.Domains[2].Above = -2 }},
		{api.ErrRange, func(s *api.Soc) { s.Domains[2].Delay = 21 }},
		{api.ErrCycle, func(s *api.Soc) { s.Domains[1].Above = 1 }},
		{api.ErrRange, func(s *api.Soc) { s.Resets[0].Least = -1 }},
		{api.ErrRange, func(s *api.Soc) { s.Resets[1].Least = 21 }},
		{api.ErrNode, func(s *api.Soc) { s.Devices[0].Clock = -1 }},
		{api.ErrNode, func(s *api.Soc) { s.Devices[0].Domain = 9 }},
		{api.ErrNode, func(s *api.Soc) { s.Devices[0].Reset = 9 }},
		{api.ErrNode, func(s *api.Soc) { s.Devices[0].Needs[1] = 9 }},
		{api.ErrNode, func(s *api.Soc) { s.Devices[2].Domain = -1 }},
		{api.ErrCycle, func(s *api.Soc) { s.Devices[1].Needs[0] = 1 }},
	}
}

// D2: of several wrong things the first one in the chapter's order is told, alone, of two, and of all behind it.
func TestCheckTellsTheFirst(t *testing.T) {
	all := faults()
	for i, f := range all {
		s := chip()
		f.make(&s)
		seeCheck(t, s, f.err)
		for _, later := range all[i+1:] {
			s = chip()
			f.make(&s)
			later.make(&s)
			seeCheck(t, s, f.err)
			s = chip()
			later.make(&s)
			f.make(&s)
			seeCheck(t, s, f.err)
		}
		s = chip()
		for _, later := range all[i:] {
			later.make(&s)
		}
		seeCheck(t, s, f.err)
	}
}

// D2: a part that stands ahead is told of first, whatever is wrong with it.
func TestCheckGoesPartByPart(t *testing.T) {
	clocks := map[api.Errno]api.Clock{
		api.ErrArg: {Kind: 'g'}, api.ErrNode: {Kind: 'm', From: []int{0, 12}}, api.ErrRange: {Kind: 'd', From: []int{0}},
	}
	domains := map[api.Errno]api.Domain{api.ErrNode: {Above: 6}, api.ErrRange: {Above: -1, Delay: 21}}
	for err, wrong := range clocks {
		for _, other := range clocks {
			s := oneOfEach()
			s.Clocks = append(s.Clocks, wrong, other)
			seeCheck(t, s, err)
		}
	}
	for err, wrong := range domains {
		for _, other := range domains {
			s := oneOfEach()
			s.Domains = append(s.Domains, wrong, other)
			seeCheck(t, s, err)
		}
	}
}

// spoil sets a number to one that may be right, or not.
func spoil(r *rand.Rand, v reflect.Value) {
	n := []int{-2, -1, 0, 1, 2, 3, 5, 6, 11, 12, 20, 21, 1000, 1001, math.MinInt, math.MaxInt}[r.Intn(16)]
	switch {
	case v.Kind() == reflect.Uint8:
		v.SetUint(uint64("opmdgx"[r.Intn(6)]))
	case v.CanInt():
		v.SetInt(int64(n))
	case v.CanUint():
		v.SetUint(uint64(n))
	}
}

// D2: right chips in which a few numbers, or the length of a row, are changed, held against the slow one.
func TestCheckOfSpoiled(t *testing.T) {
	r := rand.New(rand.NewSource(2))
	told := map[api.Errno]int{}
	for range 30000 {
		s := randomChip(r)
		for range 1 + r.Intn(3) {
			all := numbers(&s)
			spoil(r, all[r.Intn(len(all))])
		}
		if all := rows(&s); r.Intn(4) == 0 {
			row := all[r.Intn(len(all))]
			row.Set(reflect.AppendSlice(row, row).Slice(0, r.Intn(2*row.Len()+1)))
		}
		want := slowCheck(s)
		told[want]++
		if got := Check(s); got != want {
			t.Fatalf("Check(%s) = %d, want %d", show(s), got, want)
		}
	}
	for _, err := range []api.Errno{api.OK, api.ErrFull, api.ErrArg, api.ErrNode, api.ErrRange, api.ErrCycle} {
		if told[err] < 100 {
			t.Errorf("%d was told %d times only", err, told[err])
		}
	}
}

// D2: all rows of three domains, and all needs of three devices.
func TestCheckOfSmall(t *testing.T) {
	for n := range 6 * 6 * 6 {
		s := oneOfEach()
		s.Domains = []api.Domain{{Above: n%6 - 2}, {Above: n/6%6 - 2}, {Above: n/36 - 2}}
		seeCheck(t, s, slowCheck(s))
	}
	for n := range 1 << 12 {
		s := oneOfEach()
		s.Devices = make([]api.Device, 3)
		for bit := range 12 {
			if n>>bit&1 == 1 {
				s.Devices[bit/4].Needs = append(s.Devices[bit/4].Needs, bit%4)
			}
		}
		seeCheck(t, s, slowCheck(s))
	}
}

// D3: a right one without its last device is right, unless one needs that.
func TestWithoutTheLastDevice(t *testing.T) {
	r := rand.New(rand.NewSource(3))
	told := map[api.Errno]int{}
	for range 1000 {
		for s := randomChip(r); len(s.Devices) > 0; {
			last, want := len(s.Devices)-1, api.OK
			for _, d := range s.Devices[:last] {
				if slices.Contains(d.Needs, last) {
					want = api.ErrNode
				}
			}
			s.Devices = s.Devices[:last]
			seeCheck(t, s, want)
			if told[want]++; want != api.OK {
				break
			}
		}
	}
	if told[api.OK] < 100 || told[api.ErrNode] < 100 {
		t.Errorf("told so often: %v", told)
	}
}

// D3: of a right one each of the three graphs has an order.
func TestGraphsOfRightHaveAnOrder(t *testing.T) {
	r := rand.New(rand.NewSource(4))
	for _, s := range append([]api.Soc{{}, chip(), oneOfEach()}, randomChip(r), randomChip(r), randomChip(r)) {
		for i, g := range [][][]int{Clocks(s), Domains(s), Needs(s)} {
			many := []int{len(s.Clocks), len(s.Domains), len(s.Devices)}[i]
			if order, err := graph.Order(g); len(order) != many || err != api.OK {
				t.Errorf("graph %d of %s has the order %v, %d", i, show(s), order, err)
			}
		}
	}
}

// P1, P2: rows of any length end, and ErrFull is told ahead of all.
func TestCheckOfLongRows(t *testing.T) {
	const long = 1 << 20
	for _, s := range []api.Soc{
		{Clocks: make([]api.Clock, long)}, {Domains: make([]api.Domain, long)}, {Resets: make([]api.Reset, long)}, {Devices: make([]api.Device, long)},
		{Devices: []api.Device{{Clock: -1, Regs: make([]api.Reg, long)}}}, {Devices: []api.Device{{Clock: -1, Needs: make([]int, long)}}},
	} {
		if got := Check(s); got != api.ErrFull {
			t.Errorf("Check of a long row = %d", got)
		}
	}
	for _, kind := range "opmdg" {
		if got := Check(api.Soc{Clocks: []api.Clock{{Kind: byte(kind), From: make([]int, long)}}}); got != api.ErrArg {
			t.Errorf("Check of a clock %c of many From = %d", kind, got)
		}
	}
}
