package clock

import (
	"math/rand"
	"slices"
	"testing"

	"catnap/api"
	"catnap/conf"
)

// G1: nothing is on, each PLL has its Lock left, each mux is set to its first, each divider has its Div.
func TestNew(t *testing.T) {
	b := newBench(t, soc(osc(1000), pllOf(0, 2, 1, 3), muxOf(1, 0), muxOf(0, 1), divOf(0, 8), gateOf(0), pllOf(3, 1, 1, 0), pllOf(0, 1, 1, 20)))
	b.runs(0, 3, 4)
	b.rates(1000, 0, 0, 1000, 125, 0, 0, 0)
	for i, want := range []int{0, 3, 0, 0, 0, 0, 0, 20} {
		b.left(i, want)
	}
	b.chain(2, 0, 1, 2)
	b.chain(3, 0, 3)
	b.chain(6, 0, 3, 6)
	// what each mux wants is what it is set to: it stays there, whatever ticks by, and whoever stands
	b.do(ticks(3)...)
	b.runs(0, 3, 4)
	b.chain(2, 0, 1, 2)
}

// G1: a chip without clocks, and one whose other parts are there, too.
func TestNewOfOtherParts(t *testing.T) {
	b := newBench(t, api.Soc{})
	b.do(tick())
	b.err(on(0), api.ErrNode)
	b = newBench(t, api.Soc{Clocks: []api.Clock{}})
	b.err(choose(0, 0), api.ErrNode)
	s := allKinds()
	s.Domains = []api.Domain{{Above: -1}}
	s.Resets = []api.Reset{{Least: 3}}
	s.Devices = []api.Device{{Clock: 4, Regs: make([]api.Reg, 8)}, {Needs: []int{0}}}
	newBench(t, s).do(on(1), on(4), tick(), tick(), choose(2, 1), tick())
}

// G1: of a chip that is not right there is no tree, but conf's error; wherever it is not right.
func TestNewOfWrong(t *testing.T) {
	clocks := func(want api.Errno, c ...api.Clock) {
		t.Helper()
		seeNoTree(t, soc(c...), want)
	}
	clocks(api.ErrFull, slices.Repeat([]api.Clock{osc(1)}, 13)...)
	clocks(api.ErrFull, make([]api.Clock, 1<<20)...)
	clocks(api.ErrArg, api.Clock{})
	clocks(api.ErrArg, api.Clock{Kind: 'x'})
	clocks(api.ErrArg, api.Clock{Kind: 'O', Rate: 1})
	clocks(api.ErrArg, osc(1), api.Clock{Kind: 'o', Rate: 1, From: []int{0}})
	for _, kind := range []byte("pdg") {
		clocks(api.ErrArg, osc(1), api.Clock{Kind: kind, Mul: 1, Div: 1})
		clocks(api.ErrArg, osc(1), api.Clock{Kind: kind, Mul: 1, Div: 1, From: []int{0, 0}})
	}
	clocks(api.ErrArg, osc(1), muxOf())
	clocks(api.ErrArg, osc(1), muxOf(0, 0, 0, 0, 0))
	clocks(api.ErrNode, osc(1), muxOf(0, 2))
	clocks(api.ErrNode, osc(1), gateOf(-1))
	clocks(api.ErrRange, osc(0))
	clocks(api.ErrRange, osc(1<<40+1))
	for _, n := range []int{0, 1001, -1} {
		clocks(api.ErrRange, osc(1), pllOf(0, n, 1, 0))
		clocks(api.ErrRange, osc(1), pllOf(0, 1, n, 0))
		clocks(api.ErrRange, osc(1), divOf(0, n))
	}
	clocks(api.ErrRange, osc(1), pllOf(0, 1, 1, 21))
	clocks(api.ErrRange, osc(1), pllOf(0, 1, 1, -1))
	clocks(api.ErrCycle, gateOf(0))
	clocks(api.ErrCycle, osc(1), muxOf(0, 2), divOf(1, 1))
	// of several, that which conf tells first
	clocks(api.ErrArg, api.Clock{Kind: 'x', From: []int{9}}, osc(0), gateOf(2))
	clocks(api.ErrNode, gateOf(9), osc(0), gateOf(2))
	for _, c := range []struct {
		want  api.Errno
		spoil func(s *api.Soc)
	}{
		{api.ErrFull, func(s *api.Soc) { s.Devices = make([]api.Device, 7) }},
		{api.ErrNode, func(s *api.Soc) { s.Domains = []api.Domain{{Above: 1}} }},
		{api.ErrCycle, func(s *api.Soc) { s.Domains = []api.Domain{{Above: 0}} }},
		{api.ErrRange, func(s *api.Soc) { s.Resets = []api.Reset{{Least: 21}} }},
		{api.ErrNode, func(s *api.Soc) { s.Devices = make([]api.Device, 1) }},
	} {
		s := allKinds()
		c.spoil(&s)
		seeNoTree(t, s, c.want)
	}
}

func seeNoTree(t *testing.T, s api.Soc, want api.Errno) {
	t.Helper()
	if tree, err := New(s); tree != nil || err != want {
		t.Errorf("New(%.300v) = %v, %d, want no tree, %d", s, tree, err, want)
	}
	if err := conf.Check(s); err != want {
		t.Errorf("conf.Check(%.300v) = %d, want %d", s, err, want)
	}
}

// G1 to G4: a chip of all kinds, act by act.
func TestAllKinds(t *testing.T) {
	b := newBench(t, allKinds())
	b.rates(100, 0, 100, 33, 0)
	b.do(on(4), divideBy(3, 1000), divideBy(3, 5))
	b.rates(100, 0, 100, 20, 20)
	b.do(choose(2, 1), tick())
	b.rates(100, 0, 100, 20, 20)
	b.do(on(1))
	b.left(1, 2)
	b.do(tick())
	b.left(1, 1)
	b.rates(100, 0, 100, 20, 20)
	b.do(tick())
	b.left(1, 0)
	b.rates(100, 350, 100, 20, 20)
	b.chain(4, 0, 2, 3, 4)
	b.do(tick())
	b.rates(100, 350, 350, 70, 70)
	b.chain(4, 0, 1, 2, 3, 4)
	b.do(off(4))
	b.runs(0, 1, 2, 3)
	b.do(off(1))
	b.runs(0)
	b.left(1, 2)
	b.chain(4, 0, 1, 2, 3, 4)
	b.do(choose(2, 0), tick())
	b.runs(0, 2, 3)
	b.chain(3, 0, 2, 3)
}

// G2: who is no such clock is told to do nothing, and nothing else has changed.
func TestWrongCalls(t *testing.T) {
	for _, ahead := range [][]act{nil, {on(1), tick(), choose(2, 1)}, {on(1), on(4), tick(), tick(), choose(2, 1), tick(), divideBy(3, 1000)}} {
		b := newBench(t, allKinds())
		b.do(ahead...)
		for _, i := range append([]int{5, 6, 11, 12}, farOut...) {
			for k := range 2 {
				b.err(act{"on", i, k}, api.ErrNode)
			}
			for _, k := range append([]int{0, 1, 2}, farOut...) {
				b.err(choose(i, k), api.ErrNode)
				b.err(divideBy(i, k), api.ErrNode)
			}
		}
		for _, i := range []int{0, 2, 3} {
			b.err(on(i), api.ErrArg)
			b.err(off(i), api.ErrArg)
		}
		for _, i := range []int{0, 1, 3, 4} {
			b.err(choose(i, 0), api.ErrArg)
			b.err(choose(i, 1), api.ErrArg)
		}
		for _, i := range []int{0, 1, 2, 4} {
			b.err(divideBy(i, 1), api.ErrArg)
			b.err(divideBy(i, 3), api.ErrArg)
		}
		for _, k := range append([]int{2, 3, 4}, farOut...) {
			b.err(choose(2, k), api.ErrArg)
		}
		for _, d := range append([]int{0}, farOut...) {
			b.err(divideBy(3, d), api.ErrArg)
		}
		b.do(ticks(4)...)
	}
}

// G2: a mux has just the places of its From.
func TestPlaces(t *testing.T) {
	from := []int{0, 1, 2, 3}
	for many := 1; many <= 4; many++ {
		b := newBench(t, soc(osc(10), osc(11), osc(12), osc(13), muxOf(from[:many]...)))
		for k := range many {
			b.err(choose(4, k), api.OK)
			b.do(tick())
			b.chain(4, k, 4)
		}
		b.err(choose(4, many), api.ErrArg)
		b.err(choose(4, -1), api.ErrArg)
		b.do(tick())
		b.chain(4, many-1, 4)
	}
}

// G2, G4: the chapter's example.
func TestExample(t *testing.T) {
	b := newBench(t, soc(osc(1), gateOf(0)))
	b.do(on(1))
	b.runs(0, 1)
}

// G2, G3: a gate follows at once, and as often as it is told.
func TestGate(t *testing.T) {
	b := newBench(t, soc(osc(7), gateOf(0), gateOf(1)))
	b.do(on(2))
	b.runs(0)
	b.do(on(1))
	b.runs(0, 1, 2)
	b.do(on(1), tick())
	b.runs(0, 1, 2)
	b.do(off(1))
	b.runs(0)
	b.do(off(1), tick(), off(2), on(1))
	b.runs(0, 1)
}

// G4: a number that is no clock tells nothing.
func TestNoClock(t *testing.T) {
	for _, s := range []api.Soc{{}, soc(osc(5)), allKinds(), longest()} {
		tree := newTree(t, s)
		for i := range s.Clocks {
			tree.On(i, true)
		}
		for _, i := range append([]int{len(s.Clocks), len(s.Clocks) + 1, 12, 13}, farOut...) {
			if i >= 0 && i < len(s.Clocks) {
				continue
			}
			if got := askOne(tree, i); !sameSeen(got, seen{}) {
				t.Errorf("clock %d of %d: %+v", i, len(s.Clocks), got)
			}
		}
	}
}

// G1 to G4: fields that a kind has no use for are not looked at.
func TestOtherFields(t *testing.T) {
	for _, n := range append([]int{0, 1, 7}, farOut...) {
		s := allKinds()
		for i := range s.Clocks {
			c := &s.Clocks[i]
			if c.Kind != 'o' {
				c.Rate = uint64(n)
			}
			if c.Kind != 'p' {
				c.Mul, c.Lock = n, n
			}
			if c.Kind != 'p' && c.Kind != 'd' {
				c.Div = n
			}
		}
		b := newBench(t, s)
		b.do(on(4), off(4), on(4), on(1), tick(), tick(), choose(2, 1), tick())
		b.rates(100, 350, 350, 116, 116)
		b.do(off(4), off(1), tick())
		for i, want := range []int{0, 2, 0, 0, 0} {
			b.left(i, want)
		}
	}
}

// G1 to G4: chips of all kinds, with many acts, wrong ones among them.
func TestRandom(t *testing.T) {
	r := rand.New(rand.NewSource(6))
	for range 1500 {
		b := newBench(t, randomSoc(r))
		for range 60 {
			b.do(randomAct(r, b.slow.clocks))
		}
	}
}

// G1 to G4: all rows of acts up to some length, of chips in which much hangs on one another.
func TestAllRows(t *testing.T) {
	for _, c := range []struct {
		clocks []api.Clock
		acts   []act
		length int
	}{
		{[]api.Clock{pllOf(1, 3, 1, 1), muxOf(2, 3), osc(5), gateOf(2)}, []act{on(0), off(0), choose(1, 0), choose(1, 1), on(3), off(3), tick()}, 6},
		{[]api.Clock{osc(5), pllOf(0, 3, 1, 2), pllOf(1, 2, 1, 1)}, []act{on(1), off(1), on(2), off(2), tick()}, 7},
		{[]api.Clock{muxOf(1, 3), muxOf(2, 3), gateOf(3), osc(6)}, []act{choose(0, 0), choose(0, 1), choose(1, 0), choose(1, 1), on(2), off(2), tick()}, 5},
		{[]api.Clock{osc(6), gateOf(0), muxOf(1, 0, 1), divOf(2, 2), muxOf(3, 1)}, []act{on(1), off(1), choose(2, 1), choose(2, 2), choose(4, 0), choose(4, 1), tick()}, 5},
	} {
		row := make([]act, c.length)
		everyRow(row, c.acts, 0, func() {
			tree, m := newTree(t, soc(c.clocks...)), newSlow(soc(c.clocks...))
			for _, a := range row {
				if do(tree, a) != m.do(a) {
					t.Fatalf("%+v behind %v: %v", c.clocks, row, a)
				}
			}
			seeSeen(t, tree, m, row)
		})
	}
}

// everyRow fills a row from place i on with acts, in all ways.
func everyRow(row, acts []act, i int, see func()) {
	if i == len(row) {
		see()
		return
	}
	for _, a := range acts {
		row[i] = a
		everyRow(row, acts, i+1, see)
	}
}
