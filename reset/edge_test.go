package reset

import (
	"fmt"
	"math/rand"
	"slices"
	"testing"

	"catnap/api"
	"catnap/conf"
)

// I2, I3, I4: a line of each Least has so many ticks left from Assert on, and is let go by just one more, if its release is wanted all along.
func TestLeast(t *testing.T) {
	for least := range 21 {
		b := newBench(t, soc(least))
		for range 3 {
			b.ok(assert(0))
			b.are(fmt.Sprintf("h%d", least))
			b.ok(release(0))
			for n := least; n > 0; n-- {
				b.are(fmt.Sprintf("h%d", n))
				b.tick(fmt.Sprintf("h%d", n-1))
			}
			b.tick("-0", 0)
			b.tick("-0")
		}
	}
}

// I1, I2, I3: as New leaves a line it has no tick left, whatever its Least: it is let go by the first tick behind Release, and by none ahead of it.
func TestAsNewLeavesIt(t *testing.T) {
	for least := range 21 {
		for ahead := range 4 {
			b := newBench(t, soc(least, least))
			for range ahead {
				b.tick("h0 h0")
			}
			b.ok(release(0))
			b.are("h0 h0")
			b.tick("-0 h0", 0)
			b.tick("-0 h0")
			b.ok(release(1))
			b.tick("-0 -0", 1)
		}
	}
}

// way is one of the ways in which a line of Least 3 comes to a state.
type way struct {
	stands string
	wanted bool
	acts   []act
}

func ways() []way {
	hold, free := assert(0), release(0)
	return []way{
		{"h0", false, nil},
		{"h0", false, ticks(5)},
		{"h0", true, []act{free}},
		{"-0", false, []act{free, tick}},
		{"-0", false, []act{free, tick, tick, tick}},
		{"-0", false, []act{hold, free, tick, tick, tick, tick}},
		{"h3", false, []act{hold}},
		{"h3", false, []act{free, tick, hold}},
		{"h3", false, []act{free, hold}},
		{"h3", true, []act{hold, free}},
		{"h2", false, []act{hold, tick}},
		{"h2", true, []act{hold, free, tick}},
		{"h2", true, []act{hold, tick, free}},
		{"h1", false, []act{hold, tick, tick}},
		{"h1", true, []act{hold, free, tick, tick}},
		{"h1", true, []act{hold, tick, tick, free}},
		{"h0", false, []act{hold, tick, tick, tick}},
		{"h0", false, append([]act{hold}, ticks(9)...)},
		{"h0", true, []act{hold, free, tick, tick, tick}},
		{"h0", true, []act{hold, tick, tick, tick, free}},
	}
}

// I2: Assert is right in each state: it is held then, has its Least left again, and no release is wanted, but one behind it.
func TestAssertInEachState(t *testing.T) {
	for _, w := range ways() {
		for _, again := range []int{1, 2} {
			b := newBench(t, soc(3))
			b.ok(w.acts...)
			b.are(w.stands)
			for range again {
				b.ok(assert(0))
				b.are("h3")
			}
			for _, stands := range []string{"h2", "h1", "h0", "h0", "h0"} {
				b.tick(stands)
			}
			b.ok(release(0))
			b.tick("-0", 0)
		}
	}
}

// I2: Release is right in each state of a line that is held; it changes no ticks left. Of a line that is not held it is ErrState, and forgotten.
func TestReleaseInEachState(t *testing.T) {
	for _, w := range ways() {
		for _, again := range []int{1, 2, 3} {
			b := newBench(t, soc(3))
			b.ok(w.acts...)
			b.are(w.stands)
			for range again {
				if w.stands == "-0" {
					b.err(release(0), api.ErrState)
				} else {
					b.ok(release(0))
				}
				b.are(w.stands)
			}
			if w.stands == "-0" {
				b.tick("-0")
				b.ok(assert(0))
				b.do(ticks(3)...)
				b.tick("h0")
				continue
			}
			b.do(ticks(int(w.stands[1] - '0'))...)
			b.are("h0")
			b.tick("-0", 0)
			b.tick("-0")
			b.err(release(0), api.ErrState)
		}
	}
}

// I3: of each state, what the ticks behind it make of it, if nothing else is done.
func TestTicksInEachState(t *testing.T) {
	for _, w := range ways() {
		b := newBench(t, soc(3))
		b.ok(w.acts...)
		for n := int(w.stands[1] - '0'); n > 0; n-- {
			b.tick(fmt.Sprintf("h%d", n-1))
		}
		switch {
		case w.wanted:
			b.tick("-0", 0)
		case w.stands != "-0":
			b.tick("h0")
		}
		stands := b.asked()[:2]
		for range 50 {
			b.tick(stands)
		}
	}
}

// I3: a release that is wanted ahead of, in, and behind the last tick left lets the line go by the first tick that finds none left.
func TestWhenReleaseIsWanted(t *testing.T) {
	for _, least := range []int{0, 1, 2, 5, 20} {
		for ahead := range least + 4 {
			b := newBench(t, soc(least))
			b.ok(assert(0))
			b.ok(ticks(ahead)...)
			b.ok(release(0))
			more := max(0, least-ahead) // the ticks that it takes still
			for n := more; n > 0; n-- {
				b.are(fmt.Sprintf("h%d", n))
				b.tick(fmt.Sprintf("h%d", n-1))
			}
			b.tick("-0", 0)
			if want := max(least, ahead) + 1; b.slow.now != want {
				t.Errorf("Least %d, wanted behind %d ticks: let go by tick %d, want %d", least, ahead, b.slow.now, want)
			}
		}
	}
}

// I4: from Assert on a line is held through as many ticks as its Least, whatever is done but Assert, and whatever was; the one more may let it go.
func TestHeldAtLeast(t *testing.T) {
	r := rand.New(rand.NewSource(2))
	for range 3000 {
		s := random(r)
		many := len(s.Resets)
		l := newLines(t, s)
		for range r.Intn(60) {
			do(l, randomAct(r, many))
		}
		i := r.Intn(many)
		l.Assert(i)
		for n := range s.Resets[i].Least {
			for range r.Intn(4) {
				if a := randomAct(r, many); a.name == "release" || a.name == "assert" && a.i != i {
					do(l, a)
				}
			}
			if told := l.Tick(); slices.Contains(told, i) || !l.Held(i) {
				t.Fatalf("%v: %d is let go by tick %d, told %v", s.Resets, i, n+1, told)
			}
		}
		if err := l.Release(i); err != api.OK {
			t.Fatalf("%v: Release(%d) = %d behind its ticks", s.Resets, i, err)
		}
		if told := l.Tick(); !slices.Contains(told, i) || l.Held(i) {
			t.Fatalf("%v: %d is held still, told %v", s.Resets, i, told)
		}
	}
}

// I3: lines that are let go in one tick are told in the order of their numbers, however they were asserted and released.
func TestToldInOrder(t *testing.T) {
	r := rand.New(rand.NewSource(3))
	for range 300 {
		b := newBench(t, soc(2, 2, 2, 2, 2, 2))
		b.ok(each(release, r.Perm(6)...)...)
		b.tick("-0 -0 -0 -0 -0 -0", 0, 1, 2, 3, 4, 5)
		b.ok(each(assert, r.Perm(6)...)...)
		b.ok(each(release, r.Perm(6)...)...)
		b.tick("h1 h1 h1 h1 h1 h1")
		b.tick("h0 h0 h0 h0 h0 h0")
		b.tick("-0 -0 -0 -0 -0 -0", 0, 1, 2, 3, 4, 5)
	}
	// lines of other Least, asserted as much ahead: the last one first
	b := newBench(t, soc(0, 1, 2, 3, 4, 20))
	for i := 5; i >= 0; i-- {
		b.ok(assert(i), release(i))
		if i > 0 {
			b.ok(ticks(b.slow.least[i] - b.slow.least[i-1])...)
		}
	}
	b.are("h0 h0 h0 h0 h0 h0")
	b.tick("-0 -0 -0 -0 -0 -0", 0, 1, 2, 3, 4, 5)
}

// I3: each set of lines that are let go in one tick is told, and no other line; ErrState is of these alone then.
func TestEachSetIsTold(t *testing.T) {
	r := rand.New(rand.NewSource(4))
	for bits := range 1 << 6 {
		b := newBench(t, soc(0, 3, 0, 20, 1, 0))
		var set []int
		for i := range 6 {
			if bits>>i&1 == 1 {
				set = append(set, i)
			}
		}
		mixed := slices.Clone(set)
		r.Shuffle(len(mixed), func(i, j int) { mixed[i], mixed[j] = mixed[j], mixed[i] })
		b.ok(each(release, mixed...)...)
		if told, _ := b.do(tick); !slices.Equal(told, set) {
			t.Errorf("%v are told, want %v", told, set)
		}
		for i := range 6 {
			want := api.OK
			if slices.Contains(set, i) {
				want = api.ErrState
			}
			b.err(release(i), want)
		}
		b.do(tick)
		b.are("-0 -0 -0 -0 -0 -0")
	}
}

// I3: one line is let go, another one's ticks get less, and a third one waits, in one tick; each by itself.
func TestBeside(t *testing.T) {
	b := newBench(t, soc(1, 2, 0, 20, 3, 0))
	b.ok(assert(0), assert(1), assert(3), release(0), release(3), release(5), assert(4))
	b.tick("h0 h1 h0 h19 h2 -0", 5)
	b.ok(assert(5))
	b.tick("-0 h0 h0 h18 h1 h0", 0)
	b.ok(release(1), release(4))
	b.err(release(0), api.ErrState)
	b.tick("-0 -0 h0 h17 h0 h0", 1)
	b.ok(assert(1), release(2), release(5))
	b.tick("-0 h1 -0 h16 -0 -0", 2, 4, 5)
	b.ok(ticks(16)...)
	b.are("-0 h0 -0 h0 -0 -0")
	b.tick("-0 h0 -0 -0 -0 -0", 3)
}

// I3: many ticks behind which nothing is wanted: all lines that are held stay so, all others, too.
func TestManyTicks(t *testing.T) {
	b := newBench(t, soc(20, 0, 7, 1))
	b.ok(release(1), assert(0), assert(3), tick)
	l := b.lines
	for range 100000 {
		if told := l.Tick(); len(told) > 0 {
			t.Fatalf("%v are told", told)
		}
	}
	if got := say(4, l.Held, l.Left); got != "h0 -0 h0 h0 " {
		t.Error(got)
	}
	for i, want := range []api.Errno{api.OK, api.ErrState, api.OK, api.OK} {
		if err := l.Release(i); err != want {
			t.Errorf("Release(%d) = %d, want %d", i, err, want)
		}
	}
	if told := l.Tick(); !slices.Equal(told, []int{0, 2, 3}) {
		t.Errorf("%v are told", told)
	}
}

// padded is a copy of a chip whose row has more behind its length; and what tells whether that is still so.
func padded(s api.Soc) (api.Soc, func() bool) {
	all := append(slices.Clone(s.Resets), api.Reset{Least: -9}, api.Reset{Least: -9})
	return api.Soc{Resets: all[:len(s.Resets)]}, func() bool {
		return all[len(all)-1].Least == -9 && all[len(all)-2].Least == -9
	}
}

// P3: a description that is changed later changes no lines, and no lines write into it, or behind its row.
func TestDescriptionIsNotKept(t *testing.T) {
	r := rand.New(rand.NewSource(5))
	for range 300 {
		kept := random(r)
		handed, behind := padded(kept)
		b := newBench(t, handed)
		for range 30 {
			b.do(randomAct(r, len(kept.Resets)))
		}
		if !conf.Same(handed, kept) || !behind() {
			t.Fatalf("%+v was written into", handed)
		}
		for i := range handed.Resets {
			handed.Resets[i].Least = 99
		}
		b.see()
		for range 30 {
			b.do(randomAct(r, len(kept.Resets)))
		}
	}
}

// P3: what is answered is new: written into, up to its end, it is neither seen by the lines nor another answer.
func TestAnswersAreNew(t *testing.T) {
	r := rand.New(rand.NewSource(6))
	for range 300 {
		b := newBench(t, soc(0, 1, 0, 2, 0, 0))
		for range 30 {
			b.do(assert(r.Intn(6)), release(r.Intn(6)))
			first, _ := b.do(tick)
			still := slices.Clone(first)
			b.do(assert(r.Intn(6)), release(r.Intn(6)))
			second, _ := b.do(tick)
			if !slices.Equal(first, still) {
				t.Fatalf("%v was %v ahead of the next tick", first, still)
			}
			still = slices.Clone(second)
			erase(first)
			if !slices.Equal(second, still) {
				t.Fatalf("%v was %v ahead of another one being written into", second, still)
			}
			erase(second)
			b.see()
		}
	}
}

func erase(l []int) {
	for i := range l[:cap(l)] {
		l[:cap(l)][i] = -9
	}
}

// P3, P4: lines of one description do not hang on one another, and do the same by the same acts.
func TestLinesOfOne(t *testing.T) {
	r := rand.New(rand.NewSource(7))
	for range 100 {
		s := random(r)
		first, still := newBench(t, s), newBench(t, s)
		for range 40 {
			first.do(randomAct(r, len(s.Resets)))
		}
		still.see()
		again := newBench(t, s)
		again.do(first.done...)
		if got, want := again.asked(), first.asked(); got != want {
			t.Errorf("%v behind %v: %q, the first time %q", s.Resets, first.done, got, want)
		}
		still.see()
		still.do(each(release, 0)...)
		still.do(tick)
	}
}
