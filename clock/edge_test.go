package clock

import (
	"math"
	"math/rand"
	"slices"
	"testing"

	"catnap/api"
	"catnap/conf"
)

// longest is a chain of 12.
func longest() api.Soc {
	return soc(gateOf(1), divOf(2, 3), muxOf(3), pllOf(4, 5, 1, 2), gateOf(5), pllOf(6, 7, 1, 1), muxOf(7, 7), divOf(8, 2), pllOf(9, 2, 1, 0), muxOf(10, 11), gateOf(11), osc(24))
}

// G3: a PLL of each Lock locks in just so many ticks, while it is on, whatever it has done before.
func TestLock(t *testing.T) {
	for lock := range 21 {
		b := newBench(t, soc(osc(3), pllOf(0, 2, 1, lock)))
		b.do(ticks(3)...)
		b.left(1, lock)
		locks := func() {
			t.Helper()
			for n := lock; n > 0; n-- {
				b.left(1, n)
				b.runs(0)
				b.do(tick())
			}
			b.left(1, 0)
			b.runs(0, 1)
			b.do(tick(), tick())
			b.left(1, 0)
			b.runs(0, 1)
		}
		b.do(on(1))
		locks()
		b.do(off(1)) // it has locked
		b.left(1, lock)
		b.runs(0)
		b.do(tick())
		b.left(1, lock)
		b.do(on(1))
		locks()
		b.do(on(1)) // it is on
		b.left(1, 0)
		b.runs(0, 1)
		b.do(off(1), on(1)) // with no tick between
		locks()
	}
}

// G2, G3: a PLL that is turned off while it locks has all its ticks again; one that is turned on while it is on has not.
func TestOffWhileItLocks(t *testing.T) {
	for lock := 1; lock <= 20; lock++ {
		for n := range lock {
			b := newBench(t, soc(osc(3), pllOf(0, 2, 1, lock)))
			b.do(on(1))
			b.do(ticks(n)...)
			b.do(on(1))
			b.left(1, lock-n)
			b.do(off(1))
			b.left(1, lock)
			b.do(on(1))
			b.left(1, lock)
			b.do(ticks(lock - 1)...)
			b.runs(0)
			b.do(tick())
			b.runs(0, 1)
		}
	}
}

// G3: a PLL whose source stands for a tick has all its ticks again, whether it locks or has locked; with no tick between nothing is lost.
func TestSourceStands(t *testing.T) {
	for _, lock := range []int{0, 1, 2, 20} {
		for n := range lock + 2 {
			b := newBench(t, soc(osc(3), gateOf(0), pllOf(1, 2, 1, lock)))
			b.do(on(2))
			b.do(ticks(2)...)
			b.left(2, lock)
			b.do(on(1))
			b.do(ticks(n)...)
			left := max(lock-n, 0)
			b.left(2, left)
			b.do(off(1))
			b.left(2, left)
			b.runs(0)
			b.do(on(1))
			b.left(2, left)
			b.do(off(1), tick())
			b.left(2, lock)
			b.runs(0)
			b.do(on(1))
			b.do(ticks(lock)...)
			b.left(2, 0)
			b.runs(0, 1, 2)
		}
	}
}

// G3: a PLL that is off does not lock, whether its source runs or stands.
func TestOffDoesNotLock(t *testing.T) {
	b := newBench(t, soc(osc(3), gateOf(0), pllOf(1, 2, 1, 4)))
	b.do(tick(), on(1), tick(), tick(), off(1), tick())
	b.left(2, 4)
	b.do(on(2), tick())
	b.left(2, 4)
	b.do(on(1), tick())
	b.left(2, 3)
}

// G3: a mux changes over at the tick: to what runs at once, to what stands only from what stands.
func TestMuxChangesOver(t *testing.T) {
	b := newBench(t, soc(osc(10), osc(20), gateOf(0), gateOf(1), muxOf(0, 1, 2, 3)))
	b.do(choose(4, 1))
	b.rates(10, 20, 0, 0, 10)
	b.do(tick()) // from what runs to what runs
	b.rates(10, 20, 0, 0, 20)
	b.do(choose(4, 2), tick(), tick()) // from what runs to what stands: it waits
	b.chain(4, 1, 4)
	b.do(on(2))
	b.chain(4, 1, 4)
	b.do(tick()) // till that runs
	b.chain(4, 0, 2, 4)
	b.rates(10, 20, 10, 0, 10)
	b.do(choose(4, 3), off(2)) // from what stands to what stands
	b.chain(4, 0, 2, 4)
	b.do(tick())
	b.chain(4, 1, 3, 4)
	b.runs(0, 1)
	b.do(choose(4, 0))
	b.runs(0, 1)
	b.do(tick()) // from what stands to what runs
	b.runs(0, 1, 4)
	b.chain(4, 0, 4)
}

// G3: what a mux is set to already changes nothing; what it wants can be changed as long as it waits.
func TestMuxWants(t *testing.T) {
	b := newBench(t, soc(osc(10), gateOf(0), muxOf(0, 1), osc(30), muxOf(3, 0, 1, 3)))
	b.do(choose(2, 0), tick())
	b.chain(2, 0, 2)
	b.do(choose(2, 1), tick(), choose(2, 0), on(1), tick(), tick()) // it waits for it no more
	b.chain(2, 0, 2)
	b.do(choose(4, 1), choose(4, 2), tick()) // only what it wants last
	b.chain(4, 0, 1, 4)
	b.do(choose(4, 0), choose(4, 2), tick())
	b.chain(4, 0, 1, 4)
	b.do(choose(4, 1), choose(4, 0), tick())
	b.chain(4, 3, 4)
	b.do(off(1), choose(4, 2), tick(), choose(4, 1), tick()) // what it waited for is forgotten
	b.chain(4, 0, 4)
	b.do(on(1), tick())
	b.chain(4, 0, 4)
	b.do(choose(4, 2), off(1), tick(), tick())
	b.chain(4, 0, 4)
	b.do(on(1), tick()) // and what it still wants is not
	b.chain(4, 0, 1, 4)
}

// G3: a mux whose own source stands goes to what it wants, and stays at what it is set to.
func TestMuxStands(t *testing.T) {
	b := newBench(t, soc(osc(10), gateOf(0), gateOf(0), muxOf(1, 2), muxOf(3, 0)))
	b.do(tick())
	b.chain(3, 0, 1, 3)
	b.do(choose(3, 1), tick())
	b.chain(3, 0, 2, 3)
	b.do(on(1), tick())
	b.chain(3, 0, 2, 3)
	b.runs(0, 1)
	b.do(on(2))
	b.runs(0, 1, 2, 3, 4)
	b.do(choose(4, 1), off(2), tick())
	b.chain(4, 0, 4)
	b.runs(0, 1, 4)
	b.do(choose(4, 0), tick(), tick())
	b.chain(4, 0, 4)
	b.do(choose(3, 0), tick()) // the one ahead changes over, and runs only then
	b.chain(4, 0, 4)
	b.do(tick())
	b.chain(4, 0, 1, 3, 4)
}

// reversed is a chip whose numbers run the other way; and what tells a clock's number in it.
func reversed(s api.Soc) (api.Soc, func(i int) int) {
	number := func(i int) int { return len(s.Clocks) - 1 - i }
	other := soc(make([]api.Clock, len(s.Clocks))...)
	for i, c := range s.Clocks {
		from := make([]int, len(c.From))
		for k, v := range c.From {
			from[k] = number(v)
		}
		c.From = from
		if len(from) == 0 {
			c.From = nil
		}
		other.Clocks[number(i)] = c
	}
	return other, number
}

// bothWays tests a chip, and the same one numbered the other way.
func bothWays(t *testing.T, s api.Soc, see func(b *bench, n func(i int) int)) {
	t.Helper()
	see(newBench(t, s), func(i int) int { return i })
	other, number := reversed(s)
	see(newBench(t, other), number)
}

// G3: a mux does not see yet that the PLL that it wants locks in this tick, whichever has the lower number.
func TestMuxAndPLLInOneTick(t *testing.T) {
	bothWays(t, soc(osc(10), pllOf(0, 3, 1, 1), muxOf(0, 1)), func(b *bench, n func(i int) int) {
		b.do(on(n(1)), choose(n(2), 1), tick())
		b.left(n(1), 0)
		b.chain(n(2), n(0), n(2))
		b.do(tick())
		b.chain(n(2), n(0), n(1), n(2))
	})
}

// G3: a PLL behind a mux locks by what that was set to ahead of the tick.
func TestPLLBehindMuxInOneTick(t *testing.T) {
	bothWays(t, soc(osc(10), gateOf(0), muxOf(1, 0), pllOf(2, 3, 1, 2)), func(b *bench, n func(i int) int) {
		b.do(on(n(3)), choose(n(2), 1), tick()) // the mux came to what runs in this tick
		b.left(n(3), 2)
		b.chain(n(2), n(0), n(2))
		b.do(tick())
		b.left(n(3), 1)
		b.do(choose(n(2), 0), tick(), tick()) // it waits for the gate, and the PLL locks
		b.left(n(3), 0)
		b.runs(sorted(n, 0, 2, 3)...)
		b.do(on(n(1)), tick())
		b.chain(n(3), n(0), n(1), n(2), n(3))
		b.left(n(3), 0)
	})
}

// sorted are the numbers that n tells of some, in order.
func sorted(n func(i int) int, some ...int) []int {
	var all []int
	for _, i := range some {
		all = append(all, n(i))
	}
	return slices.Sorted(slices.Values(all))
}

// G3: the second PLL begins to lock in the tick behind the one in which the first one has locked.
func TestPLLBehindPLLInOneTick(t *testing.T) {
	bothWays(t, soc(osc(10), pllOf(0, 3, 1, 1), pllOf(1, 2, 1, 1)), func(b *bench, n func(i int) int) {
		b.do(on(n(1)), on(n(2)), tick())
		b.left(n(1), 0)
		b.left(n(2), 1)
		b.do(tick())
		b.left(n(2), 0)
		b.runs(sorted(n, 0, 1, 2)...)
		// the first one is turned off and on: the second one has locked till the tick, in which it loses that while the first one locks
		b.do(off(n(1)), on(n(1)))
		b.left(n(2), 0)
		b.do(tick())
		b.left(n(1), 0)
		b.left(n(2), 1)
		b.runs(sorted(n, 0, 1)...)
	})
}

// G3: muxes that change in one tick each go by where the others were.
func TestMuxesInOneTick(t *testing.T) {
	bothWays(t, soc(osc(10), gateOf(0), muxOf(1, 0), muxOf(0, 2)), func(b *bench, n func(i int) int) {
		b.do(choose(n(2), 1), choose(n(3), 1), tick()) // 2 comes to run; 3 wants it, and saw it stand
		b.chain(n(2), n(0), n(2))
		b.chain(n(3), n(0), n(3))
		b.do(tick())
		b.chain(n(3), n(0), n(2), n(3))
	})
	bothWays(t, soc(osc(10), gateOf(0), muxOf(1, 0), muxOf(2, 1)), func(b *bench, n func(i int) int) {
		b.do(choose(n(2), 1), choose(n(3), 1), tick()) // 3 saw its source stand, and goes to what stands, though 2 comes to run
		b.chain(n(2), n(0), n(2))
		b.chain(n(3), n(0), n(1), n(3))
		b.runs(sorted(n, 0, 2)...)
	})
	bothWays(t, soc(osc(10), osc(20), muxOf(0, 1), muxOf(0, 2), muxOf(1, 3)), func(b *bench, n func(i int) int) {
		b.do(choose(n(2), 1), choose(n(3), 1), choose(n(4), 1), tick()) // all at once
		b.chain(n(4), n(1), n(2), n(3), n(4))
	})
}

// G2, G4: divisors at their bounds; what is left over is left out, at each divider by itself.
func TestDivisors(t *testing.T) {
	for _, r := range []uint64{1, 2, 999, 1000, 1001, 1999, 2000, 1<<40 - 1, 1 << 40} {
		for _, d := range []int{1, 2, 999, 1000} {
			b := newBench(t, soc(osc(r), divOf(0, d), divOf(1, 3), muxOf(2)))
			b.rates(r, r/uint64(d), r/uint64(d)/3, r/uint64(d)/3)
			b.do(divideBy(1, 1))
			b.rates(r, r, r/3)
			b.do(divideBy(1, 1000))
			b.rates(r, r/1000, r/1000/3)
			b.do(divideBy(2, 1), divideBy(1, d), tick())
			b.rates(r, r/uint64(d), r/uint64(d))
		}
	}
	// what is divided to nothing still runs, and makes nothing of what is behind it
	b := newBench(t, soc(osc(999), divOf(0, 1000), pllOf(1, 1000, 1, 0), gateOf(2), divOf(3, 1)))
	b.do(on(2), on(3))
	b.rates(999, 0, 0, 0, 0)
	b.runs(0, 1, 2, 3, 4)
}

// G4: a divisor is set of what stands, too.
func TestDivideOfWhatStands(t *testing.T) {
	b := newBench(t, soc(osc(100), gateOf(0), divOf(1, 3)))
	b.do(divideBy(2, 7))
	b.rates(100, 0, 0)
	b.do(tick(), on(1))
	b.rates(100, 100, 14)
}

// G4: a PLL multiplies ahead of it dividing; a rate of more than 2^40 is 2^40, and goes on from there.
func TestPLLRates(t *testing.T) {
	const most = 1 << 40
	for _, c := range []struct {
		r        uint64
		mul, div int
		want     uint64
	}{
		{7, 3, 2, 10}, {1, 1, 1000, 0}, {999, 1, 1000, 0}, {1000, 1, 1000, 1}, {1, 1000, 1, 1000}, {1, 1000, 999, 1}, {5, 1000, 1000, 5},
		{most, 1, 1, most}, {most, 1000, 1000, most}, {most, 999, 1000, 1098412116148}, {most, 2, 1, most}, {most, 1000, 1, most}, {most, 1000, 999, most},
		{most / 2, 2, 1, most}, {most/2 + 1, 2, 1, most}, {most / 2, 1000, 500, most}, {most/2 - 1, 2, 1, most - 2},
		{most - 1, 1, 1, most - 1}, {most - 1, 1000, 999, most}, {most, 3, 2, most}, {most/1000 + 1, 1000, 1, most}, {most / 1000, 1000, 1, most / 1000 * 1000},
		{most - 1, 1000, 1000, most - 1}, {most/3*2 + 2, 3, 2, most}, {(most + 1) / 3, 3, 1, most / 3 * 3},
	} {
		if made := c.r * uint64(c.mul) / uint64(c.div); c.want != min(made, most) {
			t.Errorf("%+v is not as the document says: %d", c, made)
		}
		b := newBench(t, soc(osc(c.r), pllOf(0, c.mul, c.div, 1), divOf(1, 4), pllOf(1, 2, 1, 0)))
		b.do(on(1), on(3))
		b.rates(c.r, 0, 0, 0)
		b.do(tick())
		b.rates(c.r, c.want, c.want/4, min(2*c.want, most))
	}
}

// G4: what does not run has no rate, at each place of a chain.
func TestRatesOfWhatStands(t *testing.T) {
	b := newBench(t, soc(osc(100), gateOf(0), pllOf(1, 2, 1, 1), divOf(2, 2), muxOf(3, 0), gateOf(4)))
	b.do(on(1), on(2), on(5))
	b.rates(100, 100, 0, 0, 0, 0)
	b.do(tick())
	b.rates(100, 100, 200, 100, 100, 100)
	b.do(off(5))
	b.rates(100, 100, 200, 100, 100, 0)
	b.do(on(5), off(2))
	b.rates(100, 100, 0, 0, 0, 0)
	b.do(on(2), tick(), off(1))
	b.rates(100, 0, 0, 0, 0, 0)
	b.do(on(1))
	b.rates(100, 100, 200, 100, 100, 100)
}

// G4: clocks that nothing is behind, and that nothing is ahead of.
func TestAlone(t *testing.T) {
	b := newBench(t, soc(osc(1), osc(1<<40), gateOf(1)))
	b.do(tick())
	b.rates(1, 1<<40, 0)
	b.chain(0, 0)
	b.chain(1, 1)
	b.chain(2, 1, 2)
	b.runs(0, 1)
	b = newBench(t, soc(osc(5), osc(5), osc(5), osc(5), osc(5), osc(5), osc(5), osc(5), osc(5), osc(5), osc(5), osc(5)))
	b.do(tick())
	b.runs(0, 1, 2, 3, 4, 5, 6, 7, 8, 9, 10, 11)
	b.chain(11, 11)
}

// G4, G5: a chain of 12, whose numbers run either way.
func TestLongest(t *testing.T) {
	bothWays(t, longest(), func(b *bench, n func(i int) int) {
		for i := range 12 {
			if kind := b.slow.clocks[n(i)].Kind; kind == 'p' || kind == 'g' {
				b.do(on(n(i)))
			}
		}
		b.chain(n(0), n(11), n(10), n(9), n(8), n(7), n(6), n(5), n(4), n(3), n(2), n(1), n(0))
		b.do(tick(), tick())
		b.runs(sorted(n, 4, 5, 6, 7, 8, 9, 10, 11)...)
		b.do(tick())
		b.runs(sorted(n, 0, 1, 2, 3, 4, 5, 6, 7, 8, 9, 10, 11)...)
		for i, want := range []uint64{280, 280, 840, 840, 168, 168, 24, 24, 48, 24, 24, 24} {
			if got := b.tree.Rate(n(i)); got != want {
				b.t.Errorf("rate of %d is %d, want %d", n(i), got, want)
			}
		}
		// past the gate at 10; then nothing behind the PLL at 8 runs
		b.do(choose(n(9), 1), tick(), off(n(10)))
		b.chain(n(0), n(11), n(9), n(8), n(7), n(6), n(5), n(4), n(3), n(2), n(1), n(0))
		b.do(off(n(8)), tick())
		b.runs(sorted(n, 9, 11)...)
	})
}

// G5: what runs has a chain that runs whole, and begins with what has no source; what stands has one with something that stands.
func TestWhatRunsHasAChainThatRuns(t *testing.T) {
	r := rand.New(rand.NewSource(8))
	for range 1000 {
		s := randomSoc(r)
		tree := newTree(t, s)
		for range 40 {
			do(tree, randomAct(r, s.Clocks))
		}
		for i := range s.Clocks {
			seeChain(t, s, tree, i)
		}
	}
}

func seeChain(t *testing.T, s api.Soc, tree *Tree, i int) {
	t.Helper()
	chain := tree.Chain(i)
	if s.Clocks[chain[0]].Kind != 'o' || chain[len(chain)-1] != i {
		t.Errorf("%+v: chain of %d is %v", s.Clocks, i, chain)
	}
	for k, v := range chain {
		if tree.Running(i) && !tree.Running(v) {
			t.Errorf("%+v: %d runs, %d of its chain %v does not", s.Clocks, i, v, chain)
		}
		if k+1 < len(chain) && len(tree.Chain(v)) != k+1 {
			t.Errorf("%+v: chain of %d is %v, of %d %v", s.Clocks, i, chain, v, tree.Chain(v))
		}
	}
}

// G5: a chain that is on runs behind just as many ticks as its PLLs have left together.
func TestTicksOfAChain(t *testing.T) {
	r := rand.New(rand.NewSource(9))
	for range 2000 {
		s := randomSoc(r)
		for i := range s.Clocks {
			c := &s.Clocks[i]
			if c.Kind == 'm' {
				c.From = c.From[:1]
			}
			if c.Kind == 'p' {
				c.Lock = r.Intn(21)
			}
		}
		tree := newTree(t, s)
		for i := range s.Clocks {
			tree.On(i, true)
		}
		for range r.Intn(30) {
			tree.Tick()
		}
		i := r.Intn(len(s.Clocks))
		together := 0
		for _, v := range tree.Chain(i) {
			together += tree.Left(v)
		}
		for n := range together {
			if tree.Running(i) {
				t.Errorf("%+v: %d runs behind %d ticks, want %d", s.Clocks, i, n, together)
			}
			tree.Tick()
		}
		if !tree.Running(i) {
			t.Errorf("%+v: %d does not run behind %d ticks", s.Clocks, i, together)
		}
	}
}

// P3: a description that is changed later changes no tree, and no tree writes into it, or behind its rows.
func TestDescriptionIsNotKept(t *testing.T) {
	r := rand.New(rand.NewSource(10))
	for range 300 {
		kept := randomSoc(r)
		handed, behind := padded(kept)
		b := newBench(t, handed)
		for range 20 {
			b.do(randomAct(r, b.slow.clocks))
		}
		if !conf.Same(handed, kept) || !behind() {
			t.Fatalf("%+v was written into", handed)
		}
		for i := range handed.Clocks {
			for k := range handed.Clocks[i].From {
				handed.Clocks[i].From[k] = math.MinInt
			}
			handed.Clocks[i] = api.Clock{Kind: 'x', Mul: -1, Lock: 99}
		}
		b.see()
		for range 20 {
			b.do(randomAct(r, b.slow.clocks))
		}
	}
}

// padded is a copy of a chip whose rows have more behind their length; and what tells whether that is still so.
func padded(s api.Soc) (api.Soc, func() bool) {
	clocks := append(append([]api.Clock(nil), s.Clocks...), api.Clock{Kind: 'x'})
	for i := range s.Clocks {
		c := &clocks[i]
		c.From = append(append([]int(nil), c.From...), -9)[:len(c.From)]
	}
	return soc(clocks[:len(s.Clocks)]...), func() bool {
		for i := range s.Clocks {
			from := clocks[i].From
			if from[:len(from)+1][len(from)] != -9 {
				return false
			}
		}
		return clocks[len(s.Clocks)].Kind == 'x'
	}
}

// P3: rows that share what they are made of are each their own.
func TestSharedRows(t *testing.T) {
	from := []int{0, 1, 0}
	s := soc(osc(10), osc(20), muxOf(), muxOf(), divOf(0, 2), divOf(0, 2))
	s.Clocks[2].From, s.Clocks[3].From, s.Clocks[4].From, s.Clocks[5].From = from, from[1:], from[:1], from[1:2]
	b := newBench(t, s)
	b.do(choose(2, 1), divideBy(4, 5), tick())
	b.rates(10, 20, 20, 20, 2, 10)
	b.do(choose(3, 1), tick())
	b.rates(10, 20, 20, 10, 2, 10)
}

// P3: a chain that is written into, up to its end, is neither another one nor seen by the tree.
func TestChainIsNew(t *testing.T) {
	for _, s := range []api.Soc{allKinds(), longest(), soc(osc(1))} {
		b := newBench(t, s)
		for i := range s.Clocks {
			first, second := b.tree.Chain(i), b.tree.Chain(i)
			for k := range first[:cap(first)] {
				first[:cap(first)][k] = -9
			}
			b.chain(i, b.slow.chain(i)...)
			if len(second) != len(b.slow.chain(i)) || second[0] < 0 || second[len(second)-1] != i {
				t.Errorf("chain of %d is %v behind another one being written into", i, second)
			}
			b.do(tick())
		}
	}
}

// P3, P4: trees of one description do not hang on one another, and do the same by the same acts.
func TestTreesOfOne(t *testing.T) {
	r := rand.New(rand.NewSource(11))
	for range 100 {
		s := randomSoc(r)
		first, still := newBench(t, s), newBench(t, s)
		for range 40 {
			first.do(randomAct(r, s.Clocks))
		}
		still.see()
		again := newBench(t, s)
		again.do(first.done...)
		if got, want := asked(again.tree, len(s.Clocks)), asked(first.tree, len(s.Clocks)); !slices.EqualFunc(got, want, sameSeen) {
			t.Errorf("%+v behind %v: %+v, the first time %+v", s.Clocks, first.done, got, want)
		}
		still.see()
	}
}
