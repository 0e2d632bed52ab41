package power

import (
	"math"
	"math/rand"
	"slices"
	"testing"

	"catnap/api"
	"catnap/conf"
)

// H2, H3, H5: a domain of each Delay has so many ticks left, and is LIVE behind just two more; from OFF, and from RET.
func TestDelay(t *testing.T) {
	for delay := range 21 {
		b := newBench(t, soc(dom(-1, delay)))
		rises := func(tells string) {
			t.Helper()
			b.ok(up(0))
			for n := delay; n > 0; n-- {
				b.are("r", n)
				b.tick("", "r", n-1)
			}
			b.are("r", 0)
			b.tick(tells, "h", 0)
			b.tick("o0 ", "1", 0)
			b.tick("", "1", 0)
		}
		rises("n0 ")
		b.ok(keep(0))
		b.are("c", 0)
		b.tick("s0 ", "t", 0)
		rises("r0 ")
		b.ok(lose(0))
		b.are("c", 0)
		b.tick("l0 ", "0", 0)
		rises("n0 ")
	}
}

// H5: from Up on it takes Delay + 2 ticks, of each domain below others, too, from OFF and from RET, whatever is done meanwhile.
func TestTicksToLive(t *testing.T) {
	r := rand.New(rand.NewSource(2))
	for range 3000 {
		s := randomSoc(r)
		g := newGrid(t, s)
		for range r.Intn(60) {
			do(g, randomAct(r, len(s.Domains)))
		}
		d := r.Intn(len(s.Domains))
		if g.Up(d) != api.OK {
			continue
		}
		for n := range s.Domains[d].Delay + 2 {
			if g.Phase(d) == '1' {
				t.Errorf("%+v: %d is LIVE behind %d ticks", s.Domains, d, n)
			}
			for range r.Intn(4) {
				if a := randomAct(r, len(s.Domains)); a.name != "tick" {
					do(g, a)
				}
			}
			g.Tick()
		}
		if g.Phase(d) != '1' {
			t.Errorf("%+v: %d is in %c behind its ticks", s.Domains, d, g.Phase(d))
		}
	}
}

// H2, H3: what it tells goes by where it comes from, and where it goes by what is told last: all rows of going down and up again.
func TestFromAndTo(t *testing.T) {
	const rows = 6
	for bits := range 1 << rows {
		b := newBench(t, soc(dom(-1, 1)))
		comes := "n0 "
		for i := range rows {
			b.ok(up(0))
			b.tick("", "r", 0)
			b.tick(comes, "h")
			b.tick("o0 ", "1")
			if bits>>i&1 == 1 {
				b.ok(keep(0))
				b.tick("s0 ", "t")
				comes = "r0 "
			} else {
				b.ok(lose(0))
				b.tick("l0 ", "0")
				comes = "n0 "
			}
			b.tick("", phases(b.grid, 1))
		}
	}
}

// H2: Up is right only of what is OFF or RET; where it is wrong nothing changes, not the ticks left, nor where it goes, or comes from.
func TestUpInEachPhase(t *testing.T) {
	for _, delay := range []int{0, 1, 3, 20} {
		for _, one := range []api.Domain{dom(-1, delay), bare(-1, delay)} {
			for _, w := range ways(soc(one), 0) {
				b := newBench(t, soc(one))
				b.ok(w.acts...)
				b.are(string(rune(w.phase)))
				if w.phase == '0' || w.phase == 't' {
					b.err(up(0), api.OK)
					b.are("r", delay)
				}
				for range delay + 3 {
					if b.grid.Phase(0) != '0' && b.grid.Phase(0) != 't' {
						b.err(up(0), api.ErrState)
					}
					b.do(tick)
				}
			}
		}
	}
}

// H2: Down is right only of what is LIVE; where it is wrong it is forgotten.
func TestDownInEachPhase(t *testing.T) {
	s := soc(dom(-1, 2))
	for _, w := range ways(s, 0) {
		for _, down := range []act{keep(0), lose(0)} {
			b := newBench(t, s)
			b.ok(w.acts...)
			want := api.ErrState
			if w.phase == '1' {
				want = api.OK
			}
			b.err(down, want)
			if b.grid.Phase(0) == 'c' { // and once more, the other way
				b.err(keep(0), api.ErrState)
				b.err(lose(0), api.ErrState)
			}
			b.do(ticks(5)...)
		}
	}
}

// H2: Up of what is OFF, and of what is RET, is right only below what is LIVE; and a domain that has none above it goes by itself.
func TestUpBelowEachPhase(t *testing.T) {
	for _, to := range [][]int{{0, 1}, {1, 0}} {
		s := renumbered(soc(dom(-1, 1), dom(0, 1)), to)
		above, below := to[0], to[1]
		for _, w := range ways(s, above) {
			for _, kept := range []bool{false, true} {
				b := newBench(t, s)
				if kept {
					b.ok(append(live(s, above, below), keep(below), tick, lose(above), tick)...)
				}
				b.ok(w.acts...)
				if p := b.grid.Phase(above); p != w.phase {
					t.Fatalf("%c", p)
				}
				want := api.ErrState
				if w.phase == '1' {
					want = api.OK
				}
				b.err(up(below), want)
				b.do(ticks(4)...)
			}
		}
	}
}

// H2: Up looks at the one above only as it is now: at what is above that no more, and beside it not at all.
func TestUpBeside(t *testing.T) {
	s := soc(dom(-1, 0), dom(0, 0), dom(0, 0), dom(-1, 0), dom(3, 0))
	b := newBench(t, s)
	b.ok(live(s, 0)...)
	b.err(up(4), api.ErrState)
	b.ok(up(1), up(2), up(3))
	b.err(up(4), api.ErrState)
	b.tick("n1 n2 n3 ", "1hhh0")
	b.tick("o1 o2 o3 ", "11110")
	b.ok(up(4), lose(1))
	b.tick("l1 n4 ", "1011h")
}

// H2: Down is right above what is OFF or RET, and of a domain with nothing below it; ErrBusy above the other four phases.
func TestDownAboveEachPhase(t *testing.T) {
	for _, to := range [][]int{{0, 1}, {1, 0}} {
		s := renumbered(soc(dom(-1, 1), dom(0, 1)), to)
		above, below := to[0], to[1]
		for _, w := range ways(s, below) {
			for _, down := range []act{keep(above), lose(above)} {
				b := newBench(t, s)
				b.ok(append(live(s, above), w.acts...)...)
				want := api.ErrBusy
				if w.phase == '0' || w.phase == 't' {
					want = api.OK
				}
				b.err(down, want)
				b.do(ticks(4)...)
			}
		}
	}
}

// H2: above several it is ErrBusy, if one of them, whichever, is neither OFF nor RET.
func TestDownAboveSeveral(t *testing.T) {
	s := soc(dom(3, 0), dom(3, 0), dom(3, 0), dom(-1, 0), dom(3, 0), dom(3, 0))
	under := []int{0, 1, 2, 4, 5}
	for bits := range 1 << len(under) {
		b := newBench(t, s)
		b.ok(live(s, 3)...)
		want := api.OK
		for i, d := range under {
			b.ok(live(s, d)...)
			switch {
			case bits>>i&1 == 1:
				want = api.ErrBusy
			case i%2 == 0:
				b.ok(keep(d), tick)
			default:
				b.ok(lose(d), tick)
			}
		}
		b.err(keep(3), want)
		b.do(ticks(2)...)
	}
	// each phase, at each place
	for _, d := range under {
		for _, w := range ways(s, d) {
			b := newBench(t, s)
			b.ok(append(live(s, 3), w.acts...)...)
			want := api.ErrBusy
			if w.phase == '0' || w.phase == 't' {
				want = api.OK
			}
			b.err(lose(3), want)
		}
	}
}

// H2: what is below others only, or beside, or above, keeps nothing up.
func TestDownBeside(t *testing.T) {
	s := soc(dom(-1, 0), dom(0, 0), dom(0, 0), dom(-1, 0))
	b := newBench(t, s)
	b.ok(live(s, 0, 1, 2, 3)...)
	b.ok(lose(1))
	b.err(lose(0), api.ErrBusy)
	b.ok(lose(3), keep(2))
	b.err(lose(0), api.ErrBusy)
	b.tick("l1 s2 l3 ", "10t0")
	b.ok(keep(0))
	b.tick("s0 ", "t0t0")
}

// H2: keep is for those with Ret; those without are lost, or stay.
func TestKeepWithoutRet(t *testing.T) {
	s := soc(bare(-1, 1), dom(-1, 1), bare(0, 0))
	b := newBench(t, s)
	b.ok(live(s, 0, 1, 2)...)
	b.err(keep(2), api.ErrArg)
	b.tick("", "111")
	b.ok(keep(1), lose(2))
	b.tick("s1 l2 ", "1t0")
	b.err(keep(0), api.ErrArg)
	b.ok(lose(0))
	b.tick("l0 ", "0t0")
	b.ok(up(0), up(1))
	b.tick("", "rr0")
	b.tick("n0 r1 ", "hh0")
}

// H2: of more than one thing that is wrong, the first that the chapter names is told.
func TestFirstWrong(t *testing.T) {
	s := soc(bare(-1, 1), dom(0, 1), dom(-1, 1), dom(2, 1))
	b := newBench(t, s)
	b.err(keep(4), api.ErrNode) // neither there, nor LIVE
	b.err(keep(-1), api.ErrNode)
	b.err(keep(0), api.ErrState) // neither LIVE, nor with Ret
	b.ok(up(0))
	b.err(keep(0), api.ErrState)
	b.do(ticks(3)...)
	b.ok(up(1), up(2))
	b.err(keep(0), api.ErrArg) // without Ret, and one below it rises
	b.err(lose(0), api.ErrBusy)
	b.do(ticks(3)...)
	b.err(keep(0), api.ErrArg) // without Ret, and one below it is LIVE
	b.err(lose(0), api.ErrBusy)
	b.ok(up(3))
	b.err(keep(2), api.ErrBusy)
	b.err(up(1), api.ErrState) // LIVE below what is LIVE
	b.ok(lose(1), tick)
	b.err(keep(0), api.ErrArg)
	b.ok(lose(0))
	b.err(keep(0), api.ErrState) // clamped, and without Ret
	b.err(up(1), api.ErrState)
	b.do(ticks(3)...)
}

// H3: all kinds in one tick, of domains beside and below one another, told in the order of their numbers, however they are numbered.
func TestAllKindsInOneTick(t *testing.T) {
	s := soc(dom(-1, 0), dom(0, 0), dom(0, 0), dom(0, 0), dom(0, 0), dom(-1, 0))
	ahead := join(live(s, 0, 2, 4, 5), []act{keep(2), tick, up(3), tick, up(1), up(2), keep(4), lose(5)})
	b := newBench(t, s)
	b.ok(ahead...)
	b.are("1rrhcc")
	b.tick("n1 r2 o3 s4 l5 ", "1hh1t0")
	r := rand.New(rand.NewSource(3))
	for range 300 {
		to := r.Perm(6)
		b := newBench(t, renumbered(s, to))
		for _, a := range ahead {
			a.d = to[a.d]
			b.ok(a)
		}
		got, _ := b.do(tick)
		want := []Event{{'n', to[1]}, {'r', to[2]}, {'o', to[3]}, {'s', to[4]}, {'l', to[5]}}
		slices.SortFunc(want, func(a, b Event) int { return a.Domain - b.Domain })
		if !slices.Equal(got, want) {
			t.Errorf("%v: %q, want %q", to, told(got), told(want))
		}
	}
}

// H3: in one tick domains at different depths change: each below what stays LIVE.
func TestDepthsInOneTick(t *testing.T) {
	s := soc(bare(1, 0), dom(2, 0), dom(-1, 0), dom(2, 0), bare(-1, 0), bare(4, 0))
	b := newBench(t, s)
	b.ok(join(live(s, 2, 1, 3, 4), []act{up(0), keep(3), up(5)})...)
	b.are("r11c1r")
	b.tick("n0 s3 n5 ", "h11t1h")
	b.ok(up(3))
	b.tick("o0 r3 o5 ", "111h11")
	b.ok(lose(0), lose(5))
	b.tick("l0 o3 l5 ", "011110")
	b.ok(keep(1), keep(3), lose(4))
	b.tick("s1 s3 l4 ", "0t1t00")
	b.ok(keep(2), up(4))
	b.tick("s2 n4 ", "0ttth0")
}

// H3: each goes by its own phase. No calls lead to a domain and one below it that both change in a tick (H5): so their phases are set by hand.
func TestAboveAndBelowInOneTick(t *testing.T) {
	for _, to := range [][]int{{0, 1, 2, 3, 4, 5}, {5, 4, 3, 2, 1, 0}} {
		g := newGrid(t, renumbered(soc(dom(-1, 0), dom(0, 0), dom(1, 0), dom(2, 0), dom(3, 0), dom(4, 0)), to))
		for i, p := range []byte{Clamp, Rise, Hold, Rise, Clamp, Live} {
			g.domains[to[i]].phase = p
		}
		g.domains[to[0]].keep = true
		g.domains[to[3]].left = 1
		got := g.Tick()
		want := []Event{{'s', to[0]}, {'n', to[1]}, {'o', to[2]}, {'l', to[4]}}
		slices.SortFunc(want, func(a, b Event) int { return a.Domain - b.Domain })
		if !slices.Equal(got, want) {
			t.Errorf("%v: %q, want %q", to, told(got), told(want))
		}
		say := ""
		for _, d := range to {
			say += string(rune(g.Phase(d)))
		}
		if say != "th1r01" || g.Left(to[3]) != 0 {
			t.Errorf("%v: %s, %d left", to, say, g.Left(to[3]))
		}
	}
}

// H3: what is retained stays so while all above it is switched off, and is restored behind that.
func TestRetBelowOff(t *testing.T) {
	s := soc(dom(-1, 1), dom(0, 0), bare(1, 0))
	b := newBench(t, s)
	b.ok(append(live(s, 0, 1), keep(1), tick, lose(0), tick)...)
	b.are("0t0")
	b.do(ticks(3)...)
	b.ok(live(s, 0)...)
	b.are("1t0")
	b.ok(up(1))
	b.tick("r1 ", "1h0")
	b.tick("o1 ", "110")
}

// H4, H5: chains of 6, numbered in all ways; all come up one behind the other, and go down the other way.
func TestChainOfSix(t *testing.T) {
	line := soc(dom(-1, 0), dom(0, 1), dom(1, 2), dom(2, 0), dom(3, 1), dom(4, 20))
	r := rand.New(rand.NewSource(4))
	orders := [][]int{{0, 1, 2, 3, 4, 5}, {5, 4, 3, 2, 1, 0}, {3, 5, 1, 0, 4, 2}}
	for range 30 {
		orders = append(orders, r.Perm(6))
	}
	for _, to := range orders {
		s := renumbered(line, to)
		b := newBench(t, s)
		for i, d := range to {
			b.chain(d, to[:i+1]...)
			for _, later := range to[i+1:] {
				b.err(up(later), api.ErrState)
			}
			b.ok(live(s, d)...)
		}
		b.are("111111")
		for i := 5; i >= 0; i-- {
			for _, ahead := range to[:i] {
				b.err(keep(ahead), api.ErrBusy)
			}
			b.ok(keep(to[i]), tick)
		}
		b.are("tttttt")
	}
}

// H4: a chain of one that has none above it, of those below one, and of one whose Above has a greater number; phases do not matter.
func TestChain(t *testing.T) {
	s := soc(dom(3, 0), dom(-1, 0), dom(0, 0), dom(-1, 0), dom(3, 0), dom(0, 0))
	b := newBench(t, s)
	for _, acts := range [][]act{nil, live(s, 3), live(s, 0), {keep(0), up(4)}, {tick}, live(s, 1)} {
		b.ok(acts...)
		b.chain(0, 3, 0)
		b.chain(1, 1)
		b.chain(2, 3, 0, 2)
		b.chain(3, 3)
		b.chain(4, 3, 4)
		b.chain(5, 3, 0, 5)
	}
}

// padded is a copy of a chip whose row has more behind its length; and what tells whether that is still so.
func padded(s api.Soc) (api.Soc, func() bool) {
	all := append(slices.Clone(s.Domains), api.Domain{Above: -9, Delay: -9}, api.Domain{Above: -9, Delay: -9})
	return soc(all[:len(s.Domains)]...), func() bool {
		return all[len(all)-1] == api.Domain{Above: -9, Delay: -9} && all[len(all)-2] == all[len(all)-1]
	}
}

// P3: a description that is changed later changes no grid, and no grid writes into it, or behind its row.
func TestDescriptionIsNotKept(t *testing.T) {
	r := rand.New(rand.NewSource(5))
	for range 300 {
		kept := randomSoc(r)
		handed, behind := padded(kept)
		b := newBench(t, handed)
		for range 30 {
			b.do(randomAct(r, len(kept.Domains)))
		}
		if !conf.Same(handed, kept) || !behind() {
			t.Fatalf("%+v was written into", handed)
		}
		for d := range handed.Domains {
			handed.Domains[d] = api.Domain{Above: math.MinInt, Delay: 99, Ret: !handed.Domains[d].Ret}
		}
		b.see()
		for range 30 {
			b.do(randomAct(r, len(kept.Domains)))
		}
	}
}

// P3: what is answered is new: written into, up to its end, it is neither seen by the grid nor another answer.
func TestAnswersAreNew(t *testing.T) {
	r := rand.New(rand.NewSource(6))
	for range 300 {
		s := randomSoc(r)
		b := newBench(t, s)
		for range 30 {
			b.do(randomAct(r, len(s.Domains)))
			tells, _ := b.do(tick)
			still := slices.Clone(tells)
			later, _ := b.do(tick)
			if !slices.Equal(tells, still) {
				t.Fatalf("%q was %q ahead of the next tick", told(tells), told(still))
			}
			for _, l := range [][]Event{tells[:cap(tells)], later[:cap(later)]} {
				for i := range l {
					l[i] = Event{'x', -9}
				}
			}
			b.see()
			d := r.Intn(len(s.Domains))
			first, second := b.grid.Chain(d), b.grid.Chain(d)
			for i := range first[:cap(first)] {
				first[:cap(first)][i] = -9
			}
			if !slices.Equal(second, b.slow.chain(d)) {
				t.Fatalf("chain of %d is %v behind another one being written into", d, second)
			}
			b.see()
		}
	}
}

// P3, P4: grids of one description do not hang on one another, and do the same by the same acts.
func TestGridsOfOne(t *testing.T) {
	r := rand.New(rand.NewSource(7))
	for range 100 {
		s := randomSoc(r)
		first, still := newBench(t, s), newBench(t, s)
		for range 40 {
			first.do(randomAct(r, len(s.Domains)))
		}
		still.see()
		again := newBench(t, s)
		again.do(first.done...)
		if got, want := asked(again.grid, len(s.Domains)), asked(first.grid, len(s.Domains)); !slices.EqualFunc(got, want, sameSeen) {
			t.Errorf("%+v behind %v: %+v, the first time %+v", s.Domains, first.done, got, want)
		}
		still.see()
	}
}
