package power

import (
	"math/rand"
	"slices"
	"testing"

	"catnap/api"
	"catnap/conf"
)

// H1: all domains are OFF, whatever they are, and stay so.
func TestNew(t *testing.T) {
	b := newBench(t, soc(dom(-1, 3), bare(0, 0), dom(1, 20), bare(-1, 20), dom(5, 0), bare(2, 1)))
	b.are("000000", 0, 0, 0, 0, 0, 0)
	b.tick("", "000000", 0, 0, 0, 0, 0, 0)
	b.tick("", "000000")
}

// H1: a chip without domains, and one whose other parts are there, too.
func TestNewOfOtherParts(t *testing.T) {
	for _, s := range []api.Soc{{}, soc([]api.Domain{}...), {Clocks: []api.Clock{{Kind: 'o', Rate: 1}}, Resets: []api.Reset{{Least: 20}}}} {
		b := newBench(t, s)
		b.tick("", "")
		for _, name := range []string{"up", "keep", "lose"} {
			b.err(act{name, 0}, api.ErrNode)
		}
	}
	s := soc(dom(-1, 1), bare(0, 0))
	s.Clocks = []api.Clock{{Kind: 'o', Rate: 1 << 40}, {Kind: 'g', From: []int{0}}}
	s.Resets = []api.Reset{{Least: 3}}
	s.Devices = []api.Device{{Clock: 1, Domain: 1, Regs: make([]api.Reg, 8)}, {Needs: []int{0}}}
	newBench(t, s).ok(append(live(s, 0, 1), lose(1), tick, keep(0), tick)...)
}

// H1: of a chip that is not right there is no grid, but conf's error; wherever it is not right.
func TestNewOfWrong(t *testing.T) {
	domains := func(want api.Errno, d ...api.Domain) {
		t.Helper()
		seeNoGrid(t, soc(d...), want)
	}
	domains(api.ErrFull, slices.Repeat([]api.Domain{dom(-1, 0)}, 7)...)
	domains(api.ErrFull, make([]api.Domain, 1<<20)...)
	for _, n := range append([]int{1, 2}, farOut...) {
		if n != -1 {
			domains(api.ErrNode, dom(n, 0))
		}
		if n < 0 || n > 20 {
			domains(api.ErrRange, dom(-1, n))
		}
	}
	domains(api.ErrNode, dom(-1, 0), dom(2, 0))
	domains(api.ErrRange, dom(-1, 21))
	domains(api.ErrRange, dom(-1, 0), bare(0, -1))
	domains(api.ErrCycle, dom(0, 0))
	domains(api.ErrCycle, dom(-1, 0), dom(2, 0), dom(1, 0))
	domains(api.ErrCycle, dom(1, 0), dom(2, 0), dom(3, 0), dom(4, 0), dom(5, 0), dom(0, 0))
	// of several, that which conf tells first
	domains(api.ErrFull, slices.Repeat([]api.Domain{dom(9, 99)}, 7)...)
	domains(api.ErrNode, dom(9, 99), dom(1, 0))
	domains(api.ErrRange, dom(-1, 21), dom(9, 0), dom(2, 0))
	for _, c := range []struct {
		want  api.Errno
		spoil func(s *api.Soc)
	}{
		{api.ErrFull, func(s *api.Soc) { s.Devices = make([]api.Device, 7) }},
		{api.ErrArg, func(s *api.Soc) { s.Clocks = make([]api.Clock, 1) }},
		{api.ErrRange, func(s *api.Soc) { s.Clocks = []api.Clock{{Kind: 'o'}}; s.Domains[0].Above = 9 }},
		{api.ErrCycle, func(s *api.Soc) { s.Clocks = []api.Clock{{Kind: 'g', From: []int{0}}}; s.Domains[0].Delay = 21 }},
		{api.ErrRange, func(s *api.Soc) { s.Resets = []api.Reset{{Least: 21}} }},
		{api.ErrNode, func(s *api.Soc) { s.Devices = make([]api.Device, 1) }},
	} {
		s := soc(dom(-1, 0), dom(0, 0))
		c.spoil(&s)
		seeNoGrid(t, s, c.want)
	}
}

func seeNoGrid(t *testing.T, s api.Soc, want api.Errno) {
	t.Helper()
	if g, err := New(s); g != nil || err != want {
		t.Errorf("New(%.300v) = %v, %d, want no grid, %d", s, g, err, want)
	}
	if err := conf.Check(s); err != want {
		t.Errorf("conf.Check(%.300v) = %d, want %d", s, err, want)
	}
}

// H2, H3: the chapter's example.
func TestExample(t *testing.T) {
	g := newGrid(t, soc(bare(-1, 0)))
	if err := g.Up(0); err != api.OK {
		t.Error(err)
	}
	g.Tick()
	g.Tick()
	if p := g.Phase(0); p != Live {
		t.Errorf("%c", p)
	}
}

// H1 to H5: a chip of one above two, one below these, and one beside, act by act.
func TestOrdinary(t *testing.T) {
	b := newBench(t, soc(dom(-1, 2), dom(0, 1), bare(0, 0), bare(1, 0), dom(-1, 1)))
	b.ok(up(0))
	b.are("r0000", 2, 0, 0, 0, 0)
	b.tick("", "r0000", 1, 0, 0, 0, 0)
	b.ok(up(4))
	b.are("r000r", 1, 0, 0, 0, 1)
	b.tick("", "r000r", 0, 0, 0, 0, 0)
	b.tick("n0 n4 ", "h000h", 0, 0, 0, 0, 0)
	b.tick("o0 o4 ", "10001", 0, 0, 0, 0, 0)
	b.ok(up(1), up(2), keep(4))
	b.are("1rr0c", 0, 1, 0, 0, 0)
	b.tick("n2 s4 ", "1rh0t", 0, 0, 0, 0, 0)
	b.ok(up(4))
	b.are("1rh0r", 0, 0, 0, 0, 1)
	b.tick("n1 o2 ", "1h10r", 0, 0, 0, 0, 0)
	b.tick("o1 r4 ", "1110h")
	b.ok(up(3), lose(2))
	b.are("11crh", 0, 0, 0, 0, 0)
	b.tick("l2 n3 o4 ", "110h1")
	b.tick("o3 ", "11011")
	b.err(keep(1), api.ErrBusy)
	b.ok(lose(3))
	b.tick("l3 ", "11001")
	b.ok(keep(1))
	b.tick("s1 ", "1t001")
	b.ok(keep(0), lose(4))
	b.are("ct00c")
	b.tick("s0 l4 ", "tt000")
	b.err(up(1), api.ErrState)
	b.ok(up(0))
	b.are("rt000", 2)
	for _, step := range []string{"rt000", "rt000"} {
		b.tick("", step)
	}
	b.tick("r0 ", "ht000")
	b.tick("o0 ", "1t000")
	b.ok(up(1))
	b.tick("", "1r000")
	b.tick("r1 ", "1h000")
	b.tick("o1 ", "11000")
	b.tick("", "11000")
}

// H2, H4: a number that is no domain is told to do nothing, and tells nothing, whatever else is so.
func TestNoDomain(t *testing.T) {
	for many := range 7 {
		s := soc(slices.Repeat([]api.Domain{dom(-1, 1)}, many)...)
		b := newBench(t, s)
		for d := range many {
			b.ok(live(s, d)[:1+d%4]...)
		}
		for _, d := range append(farOut, many, many+1, 6, 7) {
			if d >= 0 && d < many {
				continue
			}
			b.err(up(d), api.ErrNode)
			b.err(keep(d), api.ErrNode)
			b.err(lose(d), api.ErrNode)
			if got := askOne(b.grid, d); !sameSeen(got, seen{}) {
				t.Errorf("domain %d of %d: %+v", d, many, got)
			}
		}
		b.do(ticks(4)...)
	}
}

// H1 to H5: chips of all kinds, with many acts, wrong ones among them.
func TestRandom(t *testing.T) {
	r := rand.New(rand.NewSource(7))
	for range 3000 {
		s := randomSoc(r)
		b := newBench(t, s)
		for range 80 {
			b.do(randomAct(r, len(s.Domains)))
		}
	}
}

// H1 to H5: each act in each state to which acts lead, of chips in which domains are above and below others.
func TestAllStates(t *testing.T) {
	for _, s := range []api.Soc{
		soc(dom(-1, 0)),
		soc(bare(-1, 2)),
		soc(dom(-1, 1), dom(0, 0), dom(1, 1)),
		soc(dom(1, 0), bare(2, 1), dom(-1, 0)),
		soc(dom(-1, 0), dom(0, 1), dom(0, 0)),
		soc(dom(2, 1), dom(2, 0), bare(-1, 1)),
		soc(dom(-1, 1), bare(-1, 0), dom(1, 0)),
	} {
		seeAllStates(t, s)
	}
}

// seeAllStates goes on from each state that it has not met; the shortest acts that lead to it lead there again.
func seeAllStates(t *testing.T, s api.Soc) {
	t.Helper()
	acts := []act{tick, up(-1), keep(-1), lose(-1)}
	for d := range len(s.Domains) + 1 {
		acts = append(acts, up(d), keep(d), lose(d))
	}
	met := map[[6]moved]bool{}
	rows := [][]act{nil}
	for len(rows) > 0 {
		row := rows[0]
		rows = rows[1:]
		for _, a := range acts {
			b := &bench{t: t, grid: newGrid(t, s), slow: newSlow(s), done: append(slices.Clone(row), a)}
			for _, ahead := range row {
				do(b.grid, ahead)
				b.slow.do(ahead)
			}
			b.done = b.done[:len(row)]
			b.do(a)
			seeAboveLives(t, s, b.grid)
			if !met[b.slow.moved] {
				met[b.slow.moved] = true
				rows = append(rows, b.done)
			}
		}
	}
	if len(met) < 10 {
		t.Errorf("%+v: only %d states were met", s.Domains, len(met))
	}
}

// seeAboveLives wants all above a domain that has power LIVE: H5.
func seeAboveLives(t *testing.T, s api.Soc, g *Grid) {
	t.Helper()
	for d := range s.Domains {
		if p := g.Phase(d); p == '0' || p == 't' {
			continue
		}
		for a := s.Domains[d].Above; a != -1; a = s.Domains[a].Above {
			if g.Phase(a) != '1' {
				t.Fatalf("%+v: %d is in %c, and %d above it in %c", s.Domains, d, g.Phase(d), a, g.Phase(a))
			}
		}
	}
}
