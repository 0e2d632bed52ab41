package reset

import (
	"fmt"
	"math"
	"math/rand"
	"slices"
	"testing"

	"catnap/api"
)

// farOut are numbers of no line; in 32 bits, or in 8, some of them would be.
var farOut = []int{-1, -2, -6, 6, 7, 256, -256, 1 << 32, 1<<32 + 1, -1 << 32, 1<<32 - 1, math.MaxInt, math.MinInt, math.MinInt + 1}

// soc is a chip of lines, by the Least of each.
func soc(least ...int) api.Soc {
	s := api.Soc{}
	for _, n := range least {
		s.Resets = append(s.Resets, api.Reset{Least: n})
	}
	return s
}

// act is one call that changes what lines do.
type act struct {
	name string
	i    int
}

func assert(i int) act  { return act{"assert", i} }
func release(i int) act { return act{"release", i} }

var tick = act{name: "tick"}

// ticks are so many of them.
func ticks(many int) []act { return slices.Repeat([]act{tick}, many) }

// each is an act of each of these lines, one behind the other.
func each(of func(i int) act, lines ...int) []act {
	var acts []act
	for _, i := range lines {
		acts = append(acts, of(i))
	}
	return acts
}

func do(l *Lines, a act) ([]int, api.Errno) {
	switch a.name {
	case "assert":
		return nil, l.Assert(a.i)
	case "release":
		return nil, l.Release(a.i)
	}
	return l.Tick(), api.OK
}

// past is what was done with a line, by the tick at which it was done.
type past struct {
	since, span int // it was asserted last, and has to be held so long
	wish        int // its release was wanted first since then; -1, if it was not
}

// slow are lines that have no ticks left and are not held: both are reckoned from what was done when.
type slow struct {
	now   int
	least []int
	pasts []past
}

func newSlow(s api.Soc) *slow {
	m := &slow{}
	for _, r := range s.Resets {
		m.least = append(m.least, r.Least)
		m.pasts = append(m.pasts, past{wish: -1})
	}
	return m
}

// end is the tick that lets a line go; -1, if none does.
func (m *slow) end(i int) int {
	p := m.pasts[i]
	if p.wish < 0 {
		return -1
	}
	return max(p.since+p.span, p.wish) + 1
}

func (m *slow) held(i int) bool { return m.end(i) < 0 || m.now < m.end(i) }

func (m *slow) left(i int) int { return max(0, m.pasts[i].since+m.pasts[i].span-m.now) }

func (m *slow) wanted(i int) bool { return m.held(i) && m.pasts[i].wish >= 0 }

func (m *slow) do(a act) ([]int, api.Errno) {
	if a.name == "tick" {
		m.now++
		var told []int
		for i := range m.pasts {
			if m.end(i) == m.now {
				told = append(told, i)
			}
		}
		return told, api.OK
	}
	if a.i < 0 || a.i >= len(m.pasts) {
		return nil, api.ErrNode
	}
	p := &m.pasts[a.i]
	if a.name == "assert" {
		*p = past{since: m.now, span: m.least[a.i], wish: -1}
		return nil, api.OK
	}
	if !m.held(a.i) {
		return nil, api.ErrState
	}
	if p.wish < 0 {
		p.wish = m.now
	}
	return nil, api.OK
}

// stand is how a line stands, as far as it can be asked; and whether its release is wanted, which it can't.
type stand struct {
	held, wanted bool
	left         int
}

func (m *slow) stands() [6]stand {
	var all [6]stand
	for i := range m.pasts {
		all[i] = stand{m.held(i), m.wanted(i), m.left(i)}
	}
	return all
}

// say tells of each line whether it is held (a blank: it is not), and by how many ticks left.
func say(many int, held func(i int) bool, left func(i int) int) string {
	s := ""
	for i := range many {
		if held(i) {
			s += fmt.Sprintf("h%d ", left(i))
		} else {
			s += fmt.Sprintf("-%d ", left(i))
		}
	}
	return s
}

func newLines(t *testing.T, s api.Soc) *Lines {
	t.Helper()
	l, err := New(s)
	if l == nil || err != api.OK {
		t.Fatalf("New(%+v) = %v, %d", s, l, err)
	}
	return l
}

// bench holds lines, act by act, against slow ones.
type bench struct {
	t     *testing.T
	lines *Lines
	slow  *slow
	done  []act
}

func newBench(t *testing.T, s api.Soc) *bench {
	t.Helper()
	b := &bench{t: t, lines: newLines(t, s), slow: newSlow(s)}
	b.see()
	return b
}

func (b *bench) many() int { return len(b.slow.least) }

func (b *bench) asked() string { return say(b.many(), b.lines.Held, b.lines.Left) }

// see asks all of the lines, twice, as to be asked changes nothing.
func (b *bench) see() {
	b.t.Helper()
	want := say(b.many(), b.slow.held, b.slow.left)
	for range 2 {
		if got := b.asked(); got != want {
			b.t.Fatalf("%v behind %v: %q, want %q", b.slow.least, b.done, got, want)
		}
	}
}

// do does acts, and sees all behind each of them; it tells what the last one told.
func (b *bench) do(acts ...act) ([]int, api.Errno) {
	b.t.Helper()
	var last []int
	err := api.OK
	for _, a := range acts {
		b.done = append(b.done, a)
		last, err = do(b.lines, a)
		if want, wantErr := b.slow.do(a); err != wantErr || !slices.Equal(last, want) {
			b.t.Fatalf("%v: %v told %v, %d, want %v, %d", b.slow.least, b.done, last, err, want, wantErr)
		}
		b.see()
	}
	return last, err
}

// ok does acts, and wants no error of any.
func (b *bench) ok(acts ...act) {
	b.t.Helper()
	for _, a := range acts {
		b.err(a, api.OK)
	}
}

// err wants an error of an act.
func (b *bench) err(a act, want api.Errno) {
	b.t.Helper()
	if _, err := b.do(a); err != want {
		b.t.Errorf("%v: %v told %d, want %d", b.slow.least, b.done, err, want)
	}
}

// tick wants how all lines stand behind a tick, and what it tells.
func (b *bench) tick(stands string, tells ...int) {
	b.t.Helper()
	if told, _ := b.do(tick); !slices.Equal(told, tells) {
		b.t.Errorf("%v: %v told %v, want %v", b.slow.least, b.done, told, tells)
	}
	b.are(stands)
}

// are wants how all lines stand: whether they are held (h), or not (-), and their ticks left.
func (b *bench) are(stands string) {
	b.t.Helper()
	if got := b.asked(); got != stands+" " {
		b.t.Errorf("%v: behind %v they are %q, want %q", b.slow.least, b.done, got, stands)
	}
}

// random has one to six lines, of short and of long Least.
func random(r *rand.Rand) api.Soc {
	least := make([]int, 1+r.Intn(6))
	for i := range least {
		least[i] = r.Intn(1 + r.Intn(21))
	}
	return soc(least...)
}

// randomAct is, mostly, a tick, or one of a line of the chip.
func randomAct(r *rand.Rand, many int) act {
	i := r.Intn(many)
	if r.Intn(20) == 0 {
		i = append(farOut, many)[r.Intn(len(farOut)+1)]
	}
	return []act{tick, tick, tick, assert(i), release(i), release(i)}[r.Intn(6)]
}
