package clock

import (
	"math"
	"math/rand"
	"slices"
	"testing"

	"catnap/api"
	"catnap/conf"
)

// farOut are numbers of no clock, of no place and of no divisor; in 32 bits some of them would be.
var farOut = []int{-1, -2, -12, 1001, 1 << 32, 1<<32 + 1, -1 << 32, 1<<32 - 1, math.MaxInt, math.MinInt, math.MinInt + 1}

// Clocks of each kind.
func osc(rate uint64) api.Clock { return api.Clock{Kind: 'o', Rate: rate} }

func pllOf(from, mul, div, lock int) api.Clock {
	return api.Clock{Kind: 'p', From: []int{from}, Mul: mul, Div: div, Lock: lock}
}

func muxOf(from ...int) api.Clock { return api.Clock{Kind: 'm', From: from} }

func divOf(from, div int) api.Clock { return api.Clock{Kind: 'd', From: []int{from}, Div: div} }

func gateOf(from int) api.Clock { return api.Clock{Kind: 'g', From: []int{from}} }

func soc(clocks ...api.Clock) api.Soc { return api.Soc{Clocks: clocks} }

// allKinds has a clock of each kind, each one behind the one ahead of it.
func allKinds() api.Soc {
	return soc(osc(100), pllOf(0, 7, 2, 2), muxOf(0, 1), divOf(2, 3), gateOf(3))
}

// act is one call that changes what clocks do, or wants to.
type act struct {
	name string
	i, k int
}

func on(i int) act          { return act{"on", i, 1} }
func off(i int) act         { return act{"on", i, 0} }
func choose(i, k int) act   { return act{"select", i, k} }
func divideBy(i, d int) act { return act{"divide", i, d} }
func tick() act             { return act{name: "tick"} }
func ticks(many int) []act  { return slices.Repeat([]act{tick()}, many) }

func do(tree *Tree, a act) api.Errno {
	switch a.name {
	case "on":
		return tree.On(a.i, a.k != 0)
	case "select":
		return tree.Select(a.i, a.k)
	case "divide":
		return tree.Divide(a.i, a.k)
	}
	tree.Tick()
	return api.OK
}

// slow is a tree by the words of the document: it looks again and again for one more that runs, until none is found.
type slow struct {
	clocks                []api.Clock
	on                    [12]bool
	left, set, wants, div [12]int
}

func newSlow(s api.Soc) *slow {
	m := &slow{clocks: conf.Copy(s).Clocks}
	for i, c := range m.clocks {
		switch c.Kind {
		case 'p':
			m.left[i] = c.Lock
		case 'd':
			m.div[i] = c.Div
		}
	}
	return m
}

// source is -1 of an oscillator.
func (m *slow) source(i int) int {
	switch m.clocks[i].Kind {
	case 'o':
		return -1
	case 'm':
		return m.clocks[i].From[m.set[i]]
	}
	return m.clocks[i].From[0]
}

func (m *slow) running() [12]bool {
	var runs [12]bool
	for range m.clocks {
		for i, c := range m.clocks {
			switch c.Kind {
			case 'o':
				runs[i] = true
			case 'p':
				runs[i] = m.on[i] && m.left[i] == 0 && runs[m.source(i)]
			case 'g':
				runs[i] = m.on[i] && runs[m.source(i)]
			default:
				runs[i] = runs[m.source(i)]
			}
		}
	}
	return runs
}

func (m *slow) rate(runs [12]bool, i int) uint64 {
	if !runs[i] {
		return 0
	}
	c := m.clocks[i]
	switch c.Kind {
	case 'o':
		return c.Rate
	case 'p':
		return min(m.rate(runs, m.source(i))*uint64(c.Mul)/uint64(c.Div), 1<<40)
	case 'd':
		return m.rate(runs, m.source(i)) / uint64(m.div[i])
	}
	return m.rate(runs, m.source(i))
}

func (m *slow) chain(i int) []int {
	var all []int
	for ; i != -1; i = m.source(i) {
		all = append(all, i)
	}
	slices.Reverse(all)
	return all
}

func (m *slow) do(a act) api.Errno {
	if a.name == "tick" {
		m.tick()
		return api.OK
	}
	if a.i < 0 || a.i >= len(m.clocks) {
		return api.ErrNode
	}
	c := m.clocks[a.i]
	switch {
	case a.name == "on" && (c.Kind == 'p' || c.Kind == 'g'):
		m.on[a.i] = a.k != 0
		if c.Kind == 'p' && a.k == 0 {
			m.left[a.i] = c.Lock
		}
	case a.name == "select" && c.Kind == 'm' && a.k >= 0 && a.k < len(c.From):
		m.wants[a.i] = a.k
	case a.name == "divide" && c.Kind == 'd' && a.k >= 1 && a.k <= 1000:
		m.div[a.i] = a.k
	default:
		return api.ErrArg
	}
	return api.OK
}

func (m *slow) tick() {
	was := *m
	ran := m.running()
	for i, c := range m.clocks {
		switch {
		case c.Kind == 'p' && was.on[i] && ran[was.source(i)]:
			m.left[i] = max(was.left[i]-1, 0)
		case c.Kind == 'p' && was.on[i]:
			m.left[i] = c.Lock
		case c.Kind == 'm' && was.wants[i] != was.set[i]:
			if ran[c.From[was.wants[i]]] || !ran[was.source(i)] {
				m.set[i] = was.wants[i]
			}
		}
	}
}

// seen is all that there is to be asked of one clock.
type seen struct {
	running bool
	rate    uint64
	chain   []int
	left    int
}

func sameSeen(a, b seen) bool {
	return a.running == b.running && a.rate == b.rate && slices.Equal(a.chain, b.chain) && a.left == b.left
}

func (m *slow) seen() []seen {
	all := make([]seen, len(m.clocks))
	runs := m.running()
	for i := range all {
		all[i] = seen{runs[i], m.rate(runs, i), m.chain(i), m.left[i]}
	}
	return all
}

func askOne(tree *Tree, i int) seen {
	return seen{tree.Running(i), tree.Rate(i), tree.Chain(i), tree.Left(i)}
}

func asked(tree *Tree, many int) []seen {
	all := make([]seen, many)
	for i := range all {
		all[i] = askOne(tree, i)
	}
	return all
}

// seeSeen wants what is seen, twice, as to be asked changes nothing.
func seeSeen(t *testing.T, tree *Tree, m *slow, done []act) {
	t.Helper()
	want := m.seen()
	for range 2 {
		if got := asked(tree, len(want)); !slices.EqualFunc(got, want, sameSeen) {
			t.Fatalf("%+v behind %v:\n%+v, want\n%+v", m.clocks, done, got, want)
		}
	}
}

func newTree(t *testing.T, s api.Soc) *Tree {
	t.Helper()
	tree, err := New(s)
	if tree == nil || err != api.OK {
		t.Fatalf("New(%+v) = %v, %d", s, tree, err)
	}
	return tree
}

// bench holds a tree, act by act, against a slow one.
type bench struct {
	t    *testing.T
	tree *Tree
	slow *slow
	done []act
}

func newBench(t *testing.T, s api.Soc) *bench {
	t.Helper()
	b := &bench{t: t, tree: newTree(t, s), slow: newSlow(s)}
	b.see()
	return b
}

func (b *bench) see() {
	b.t.Helper()
	seeSeen(b.t, b.tree, b.slow, b.done)
}

// do does acts, and sees all behind each of them; it tells the last one's error.
func (b *bench) do(acts ...act) api.Errno {
	b.t.Helper()
	last := api.OK
	for _, a := range acts {
		b.done = append(b.done, a)
		last = do(b.tree, a)
		if want := b.slow.do(a); last != want {
			b.t.Fatalf("%+v: %v told %d, want %d", b.slow.clocks, b.done, last, want)
		}
		b.see()
	}
	return last
}

// err wants an error of an act.
func (b *bench) err(a act, want api.Errno) {
	b.t.Helper()
	if got := b.do(a); got != want {
		b.t.Errorf("%+v: %v told %d, want %d", b.slow.clocks, b.done, got, want)
	}
}

// rates wants the rates of all clocks, in order.
func (b *bench) rates(want ...uint64) {
	b.t.Helper()
	for i, r := range want {
		if got := b.tree.Rate(i); got != r {
			b.t.Errorf("%v: rate of %d is %d, want %d", b.done, i, got, r)
		}
	}
}

// left wants so many ticks left of a clock.
func (b *bench) left(i, want int) {
	b.t.Helper()
	if got := b.tree.Left(i); got != want {
		b.t.Errorf("%v: %d has %d left, want %d", b.done, i, got, want)
	}
}

// runs wants just those of all clocks to run.
func (b *bench) runs(want ...int) {
	b.t.Helper()
	var got []int
	for i := range b.slow.clocks {
		if b.tree.Running(i) {
			got = append(got, i)
		}
	}
	if !slices.Equal(got, want) {
		b.t.Errorf("%v: %v run, want %v", b.done, got, want)
	}
}

func (b *bench) chain(i int, want ...int) {
	b.t.Helper()
	if got := b.tree.Chain(i); !slices.Equal(got, want) {
		b.t.Errorf("%v: chain of %d is %v, want %v", b.done, i, got, want)
	}
}

// randomClock is a right one that comes from those ahead of place i in a mixed row; it has something in each field that its kind has no use for.
func randomClock(r *rand.Rand, mixed []int, i int) api.Clock {
	c := api.Clock{Kind: "oppmmdg"[r.Intn(7)], Rate: 1 + uint64(r.Int63n(1<<uint(1+r.Intn(40)))), Mul: 1 + r.Intn(1000), Div: 1 + r.Intn(1000), Lock: r.Intn(4)}
	many := 1
	switch {
	case i == 0:
		c.Kind = 'o'
	case c.Kind == 'm':
		many = 1 + r.Intn(4)
	}
	if c.Kind == 'o' {
		return c
	}
	for range many {
		c.From = append(c.From, mixed[r.Intn(i)])
	}
	return c
}

func randomSoc(r *rand.Rand) api.Soc {
	clocks := make([]api.Clock, 1+r.Intn(12))
	mixed := r.Perm(len(clocks))
	for i, v := range mixed {
		clocks[v] = randomClock(r, mixed, i)
	}
	return soc(clocks...)
}

// randomAct is, mostly, one that is right for a clock of its kind, or a tick; much more is turned on than off.
func randomAct(r *rand.Rand, clocks []api.Clock) act {
	i := r.Intn(len(clocks))
	switch kind := clocks[i].Kind; {
	case r.Intn(20) == 0:
		some := []int{-1, 0, 1, 2, 3, 4, 5, len(clocks), 12, 1000, 1001, math.MinInt}
		return act{[]string{"on", "select", "divide"}[r.Intn(3)], some[r.Intn(len(some))], some[r.Intn(len(some))]}
	case r.Intn(3) == 0:
		return tick()
	case kind == 'm':
		return choose(i, r.Intn(len(clocks[i].From)))
	case kind == 'd':
		return divideBy(i, 1+r.Intn(20))
	case r.Intn(4) == 0:
		return off(i)
	}
	return on(i)
}
