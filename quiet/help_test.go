package quiet

import (
	"math/rand"
	"testing"

	"catnap/api"
)

// act is one call that may change what a channel is.
type act struct {
	name         string
	active, deny bool
}

var ask, leave = act{name: "ask"}, act{name: "leave"}

func tick(active, deny bool) act { return act{"tick", active, deny} }

// The four ticks: one that stops who is asked, one that is active, and two that deny.
var rest, busy, deny, both = tick(false, false), tick(true, false), tick(false, true), tick(true, true)

var ticks = []act{rest, busy, deny, both}

var acts = []act{ask, leave, rest, busy, deny, both}

// times is these acts, so many times one behind the other.
func times(n int, row ...act) []act {
	var all []act
	for range n {
		all = append(all, row...)
	}
	return all
}

func do(c *Chan, a act) api.Errno {
	switch a.name {
	case "ask":
		return c.Ask()
	case "leave":
		return c.Leave()
	case "tick":
		c.Tick(a.active, a.deny)
	}
	return api.OK
}

// told is all that a channel tells of itself.
type told struct {
	state                   byte
	request, accept, denied bool
	times                   int
}

func tells(c *Chan) told {
	v := told{state: c.State(), times: c.Denied()}
	v.request, v.accept, v.denied = c.Signals()
	return v
}

// running, asked, stopped and denying are what is told in each state.
func running(n int) told { return told{'r', true, true, false, n} }
func asked(n int) told   { return told{'a', false, true, false, n} }
func stopped() told      { return told{'s', false, false, false, 0} }
func denying(n int) told { return told{'d', false, true, true, n} }

// slow is a channel that keeps in which states it was, and by what: all else is looked for in that, from its end back.
type slow struct {
	done []act
	was  []byte // one more than what was done
}

func newSlow() *slow { return &slow{was: []byte{'r'}} }

func (m *slow) state() byte { return m.was[len(m.was)-1] }

// next is in which state an act brings it, and what that tells.
func (m *slow) next(a act) (byte, api.Errno) {
	s := m.state()
	if a.name == "ask" && s == 'r' {
		return 'a', api.OK
	}
	if a.name == "leave" && (s == 's' || s == 'd') {
		return 'r', api.OK
	}
	if a.name != "tick" {
		return s, api.ErrState
	}
	if s == 'a' && a.deny {
		return 'd', api.OK
	}
	if s == 'a' && !a.active {
		return 's', api.OK
	}
	return s, api.OK
}

func (m *slow) do(a act) api.Errno {
	s, err := m.next(a)
	m.done = append(m.done, a)
	m.was = append(m.was, s)
	return err
}

// times is how many ticks brought it to DENY since STOP.
func (m *slow) times() int {
	n := 0
	for i := len(m.was) - 1; i > 0 && m.was[i] != 's'; i-- {
		if m.was[i] == 'd' && m.was[i-1] != 'd' {
			n++
		}
	}
	return n
}

func (m *slow) tells() told {
	s := m.state()
	quiet := s == 'a' || s == 's' || s == 'd' // is asked for
	return told{s, !quiet, s != 's', s == 'd', m.times()}
}

// bench holds a channel, act by act, against a slow one.
type bench struct {
	t    *testing.T
	c    *Chan
	slow *slow
}

func newBench(t *testing.T) *bench {
	t.Helper()
	b := &bench{t: t, c: New(), slow: newSlow()}
	b.see()
	return b
}

// see asks the channel all, twice, as to be asked changes nothing.
func (b *bench) see() {
	b.t.Helper()
	want := b.slow.tells()
	for range 2 {
		if got := tells(b.c); got != want {
			b.t.Fatalf("behind %v: %v, want %v", b.slow.done, got, want)
		}
	}
}

// do does acts, and sees all behind each of them.
func (b *bench) do(acts ...act) {
	b.t.Helper()
	for _, a := range acts {
		got, want := do(b.c, a), b.slow.do(a)
		if got != want {
			b.t.Fatalf("the last one of %v told %d, want %d", b.slow.done, got, want)
		}
		b.see()
	}
}

// is wants what is told.
func (b *bench) is(want told) {
	b.t.Helper()
	if got := tells(b.c); got != want {
		b.t.Errorf("behind %v: %v, want %v", b.slow.done, got, want)
	}
}

// become does acts, and wants what is told behind the last one.
func (b *bench) become(want told, acts ...act) {
	b.t.Helper()
	b.do(acts...)
	b.is(want)
}

// errs does an act, and wants ErrState, and that nothing is changed.
func (b *bench) errs(a act) {
	b.t.Helper()
	before := tells(b.c)
	if err := do(b.c, a); err != api.ErrState {
		b.t.Errorf("behind %v: %v told %d, want ErrState", b.slow.done, a, err)
	}
	b.is(before)
}

// way is how a channel comes into a state.
type way struct {
	acts []act
	told told
}

// ways are some into each state, the shortest one first.
func ways() map[byte][]way {
	once, twice := []act{ask, deny}, []act{ask, deny, leave, ask, both}
	more := func(row []act, behind ...act) []act { return append(append([]act{}, row...), behind...) }
	return map[byte][]way{
		'r': {
			{nil, running(0)},
			{[]act{ask, rest, leave}, running(0)},
			{more(once, leave), running(1)},
			{more(twice, leave), running(2)},
			{more(twice, leave, ask, rest, leave), running(0)},
		},
		'a': {
			{[]act{ask}, asked(0)},
			{[]act{ask, busy, busy}, asked(0)},
			{[]act{ask, rest, leave, ask}, asked(0)},
			{more(once, leave, ask), asked(1)},
			{more(twice, leave, ask, busy), asked(2)},
		},
		's': {
			{[]act{ask, rest}, stopped()},
			{[]act{ask, busy, rest}, stopped()},
			{[]act{ask, rest, leave, ask, rest}, stopped()},
			{more(once, leave, ask, rest), stopped()},
			{more(twice, leave, ask, busy, rest), stopped()},
		},
		'd': {
			{once, denying(1)},
			{[]act{ask, both}, denying(1)},
			{[]act{ask, busy, deny}, denying(1)},
			{twice, denying(2)},
			{more(twice, leave, ask, rest, leave, ask, both), denying(1)},
		},
	}
}

func randomAct(r *rand.Rand) act { return acts[r.Intn(len(acts))] }
