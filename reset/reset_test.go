package reset

import (
	"math/rand"
	"slices"
	"testing"

	"catnap/api"
	"catnap/conf"
)

// I1: all lines are held, whatever their Least, and have no tick left; no release is wanted, so that they stay so.
func TestNew(t *testing.T) {
	b := newBench(t, soc(0, 20, 1, 5, 20, 0))
	b.are("h0 h0 h0 h0 h0 h0")
	for range 50 {
		b.tick("h0 h0 h0 h0 h0 h0")
	}
	for n := range 21 {
		newBench(t, soc(n)).tick("h0")
	}
}

// I1: a chip without lines, and one whose other parts are there, too.
func TestNewOfOtherParts(t *testing.T) {
	for _, s := range []api.Soc{{}, {Resets: []api.Reset{}}, {Clocks: []api.Clock{{Kind: 'o', Rate: 1}}, Domains: []api.Domain{{Above: -1, Delay: 20}}}} {
		b := newBench(t, s)
		b.do(ticks(3)...)
		b.err(assert(0), api.ErrNode)
		b.err(release(0), api.ErrNode)
		b.do(ticks(3)...)
		if !b.lines.Held(0) || b.lines.Left(0) != 0 {
			t.Error("line 0 of none")
		}
	}
	s := soc(2, 1)
	s.Clocks = []api.Clock{{Kind: 'o', Rate: 1 << 40}, {Kind: 'g', From: []int{0}}}
	s.Domains = []api.Domain{{Above: 1, Delay: 3}, {Above: -1}, {Above: 0}}
	s.Devices = []api.Device{{Clock: 1, Domain: 2, Reset: 1, Regs: make([]api.Reg, 8)}, {Needs: []int{0}}, {Reset: 1}}
	b := newBench(t, s)
	b.ok(assert(1), release(0), release(1))
	b.tick("-0 h0", 0)
	b.tick("-0 -0", 1)
	b.err(release(2), api.ErrNode) // a device has that number, and a domain, but no line
}

// I1: of a chip that is not right there are no lines, but conf's error; wherever it is not right.
func TestNewOfWrong(t *testing.T) {
	seeNoLines(t, soc(make([]int, 7)...), api.ErrFull)
	seeNoLines(t, api.Soc{Resets: make([]api.Reset, 1<<20)}, api.ErrFull)
	for _, n := range append([]int{21, 22}, farOut...) {
		if n >= 0 && n <= 20 {
			continue
		}
		for place := range 6 {
			s := soc(0, 20, 0, 20, 0, 20)
			s.Resets[place].Least = n
			seeNoLines(t, s, api.ErrRange)
		}
	}
	for _, c := range []struct {
		want  api.Errno
		spoil func(s *api.Soc)
	}{
		{api.ErrFull, func(s *api.Soc) { s.Devices = make([]api.Device, 7) }},
		{api.ErrArg, func(s *api.Soc) { s.Clocks = make([]api.Clock, 1) }},
		{api.ErrRange, func(s *api.Soc) { s.Clocks = []api.Clock{{Kind: 'o'}} }},
		{api.ErrCycle, func(s *api.Soc) { s.Clocks = []api.Clock{{Kind: 'g', From: []int{0}}} }},
		{api.ErrNode, func(s *api.Soc) { s.Domains = []api.Domain{{Above: 1}} }},
		{api.ErrCycle, func(s *api.Soc) { s.Domains = []api.Domain{{Above: 0}} }},
		{api.ErrNode, func(s *api.Soc) { s.Devices = make([]api.Device, 1) }},
		// of several, that which conf tells first
		{api.ErrFull, func(s *api.Soc) { s.Resets = slices.Repeat([]api.Reset{{Least: 99}}, 7) }},
		{api.ErrArg, func(s *api.Soc) { s.Clocks = make([]api.Clock, 1); s.Resets[0].Least = -1 }},
		{api.ErrCycle, func(s *api.Soc) { s.Domains = []api.Domain{{Above: 0}}; s.Resets[1].Least = 21 }},
		{api.ErrRange, func(s *api.Soc) { s.Resets[1].Least = 21; s.Devices = make([]api.Device, 1) }},
	} {
		s := soc(0, 3)
		c.spoil(&s)
		seeNoLines(t, s, c.want)
	}
}

func seeNoLines(t *testing.T, s api.Soc, want api.Errno) {
	t.Helper()
	if l, err := New(s); l != nil || err != want {
		t.Errorf("New(%.300v) = %v, %d, want no lines, %d", s, l, err, want)
	}
	if err := conf.Check(s); err != want {
		t.Errorf("conf.Check(%.300v) = %d, want %d", s, err, want)
	}
}

// I2, I3: the chapter's example.
func TestExample(t *testing.T) {
	l := newLines(t, soc(5))
	if err := l.Release(0); err != api.OK {
		t.Error(err)
	}
	l.Tick()
	if l.Held(0) {
		t.Error("it is held")
	}
}

// I1 to I4: a chip of four lines, act by act.
func TestOrdinary(t *testing.T) {
	b := newBench(t, soc(3, 0, 1, 2))
	b.ok(release(0), release(3))
	b.are("h0 h0 h0 h0")
	b.tick("-0 h0 h0 -0", 0, 3)
	b.err(release(0), api.ErrState)
	b.ok(assert(0), assert(2))
	b.are("h3 h0 h1 -0")
	b.ok(release(0), release(1))
	b.are("h3 h0 h1 -0")
	b.tick("h2 -0 h0 -0", 1)
	b.ok(release(2), assert(3), release(3))
	b.are("h2 -0 h0 h2")
	b.tick("h1 -0 -0 h1", 2)
	b.tick("h0 -0 -0 h0")
	b.tick("-0 -0 -0 -0", 0, 3)
	b.tick("-0 -0 -0 -0")
	b.ok(assert(3), assert(1), assert(0))
	b.are("h3 h0 -0 h2")
	b.tick("h2 h0 -0 h1")
	b.ok(release(1), release(3), assert(0))
	b.are("h3 h0 -0 h1")
	b.tick("h2 -0 -0 h0", 1)
	b.ok(assert(3))
	b.tick("h1 -0 -0 h1")
	b.tick("h0 -0 -0 h0")
	b.tick("h0 -0 -0 h0") // the release that was wanted of 3 went by the Assert behind it
	b.ok(release(3), release(0))
	b.tick("-0 -0 -0 -0", 0, 3)
}

// I2, I3: a number that is no line is told to do nothing, and tells nothing, whatever else is so.
func TestNoLine(t *testing.T) {
	for many := range 7 {
		b := newBench(t, soc(slices.Repeat([]int{2}, many)...))
		for i := range many {
			b.ok([]act{assert(i), release(i), tick, tick}[:1+i%4]...)
		}
		for _, i := range append(farOut, many, many+1, 6, 7) {
			if i >= 0 && i < many {
				continue
			}
			b.err(assert(i), api.ErrNode)
			b.err(release(i), api.ErrNode)
			if held, left := b.lines.Held(i), b.lines.Left(i); !held || left != 0 {
				t.Errorf("line %d of %d: %t, %d", i, many, held, left)
			}
		}
		b.do(ticks(4)...)
	}
}

// I1 to I4: chips of all kinds, with many acts, wrong ones among them.
func TestRandom(t *testing.T) {
	r := rand.New(rand.NewSource(8))
	for range 3000 {
		s := random(r)
		b := newBench(t, s)
		for range 80 {
			b.do(randomAct(r, len(s.Resets)))
		}
	}
}

// I1 to I4: each act in each state to which acts lead.
func TestAllStates(t *testing.T) {
	for _, c := range []struct {
		states int
		least  []int
	}{
		// a line is let go, or held with 0 to Least left, and its release wanted, or not
		{3, []int{0}},
		{5, []int{1}},
		{43, []int{20}},
		{15, []int{1, 0}},
		{49, []int{2, 2}},
		{35, []int{1, 2}},
		{75, []int{1, 0, 1}},
	} {
		if met := seeAllStates(t, soc(c.least...)); met != c.states {
			t.Errorf("%v: %d states were met, want %d", c.least, met, c.states)
		}
	}
}

// seeAllStates goes on from each state that it has not met, by the shortest acts that lead to it; it tells how many there are.
func seeAllStates(t *testing.T, s api.Soc) int {
	t.Helper()
	acts := []act{tick, assert(-1), release(-1)}
	for i := range len(s.Resets) + 1 {
		acts = append(acts, assert(i), release(i))
	}
	met := map[[6]stand]bool{newSlow(s).stands(): true}
	rows := [][]act{nil}
	for len(rows) > 0 {
		row := rows[0]
		rows = rows[1:]
		for _, a := range acts {
			b := &bench{t: t, lines: newLines(t, s), slow: newSlow(s), done: slices.Clone(row)}
			for _, ahead := range row {
				do(b.lines, ahead)
				b.slow.do(ahead)
			}
			b.do(a)
			if stands := b.slow.stands(); !met[stands] {
				met[stands] = true
				rows = append(rows, slices.Clone(b.done))
			}
			b.do(ticks(3)...) // whether a release is wanted is seen by these
		}
	}
	return len(met)
}
