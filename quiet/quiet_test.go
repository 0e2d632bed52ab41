package quiet

import (
	"math/rand"
	"strings"
	"testing"

	"catnap/api"
)

// K1, K3: a new channel is in RUN, denied nothing, and asks for nothing on its lines.
func TestNew(t *testing.T) {
	for range 3 {
		c := New()
		if c == nil {
			t.Fatal("no channel")
		}
		if got := tells(c); got != running(0) {
			t.Errorf("a new one tells %v, want %v", got, running(0))
		}
	}
}

// K1, K2: the states are these bytes, each another one.
func TestStates(t *testing.T) {
	if Run != 'r' || Ask != 'a' || Stop != 's' || Deny != 'd' {
		t.Error(Run, Ask, Stop, Deny)
	}
	for s, all := range ways() {
		for _, w := range all {
			b := newBench(t)
			b.become(w.told, w.acts...)
			if got := b.c.State(); got != s {
				t.Errorf("behind %v: %c, want %c", w.acts, got, s)
			}
		}
	}
}

// K1, K2: the chapter's example.
func TestExample(t *testing.T) {
	c := New()
	err := c.Ask()
	c.Tick(false, false)
	if s := c.State(); s != Stop || err != api.OK {
		t.Error(s, err)
	}
}

// K1 to K3: a channel, act by act.
func TestOrdinary(t *testing.T) {
	b := newBench(t)
	b.is(running(0))
	b.become(asked(0), ask)
	b.become(asked(0), busy)
	b.become(denying(1), deny)
	b.become(denying(1), rest)
	b.become(running(1), leave)
	b.become(running(1), busy)
	b.become(asked(1), ask)
	b.become(denying(2), both)
	b.become(running(2), leave)
	b.become(asked(2), ask)
	b.become(stopped(), rest)
	b.become(stopped(), deny)
	b.become(running(0), leave)
	b.become(asked(0), ask)
	b.become(denying(1), deny)
}

// K1: what Ask and Leave tell in each state, and make of it, whatever it denied.
func TestAskAndLeave(t *testing.T) {
	for _, c := range []struct {
		act  act
		in   string // the states in which it may be done
		then func(times int) told
	}{
		{ask, "r", asked},
		{leave, "sd", running},
	} {
		for s, all := range ways() {
			for _, w := range all {
				b := newBench(t)
				b.do(w.acts...)
				if strings.IndexByte(c.in, s) >= 0 {
					if err := do(b.c, c.act); err != api.OK {
						t.Errorf("behind %v: %v told %d", w.acts, c.act, err)
					}
					b.is(c.then(w.told.times))
				}
				b.errs(c.act)
				b.errs(c.act)
			}
		}
	}
}

// K2: what each of the four ticks makes of each state; one that is active and denies is one that denies.
func TestTick(t *testing.T) {
	for s, all := range ways() {
		for _, w := range all {
			for _, a := range ticks {
				want := w.told
				if s == Ask {
					want = map[act]told{
						rest: stopped(),
						busy: asked(w.told.times),
						deny: denying(w.told.times + 1),
						both: denying(w.told.times + 1),
					}[a]
				}
				b := newBench(t)
				b.do(w.acts...)
				b.become(want, a)
			}
		}
	}
}

// K3: the three lines in each state, one by one, however it came there.
func TestSignals(t *testing.T) {
	for s, all := range ways() {
		for _, w := range all {
			c := New()
			for _, a := range w.acts {
				do(c, a)
			}
			request, accept, denied := c.Signals()
			if want := s == Run; request != want {
				t.Errorf("%c: REQUEST is %v", s, request)
			}
			if want := s != Stop; accept != want {
				t.Errorf("%c: ACCEPT is %v", s, accept)
			}
			if want := s == Deny; denied != want {
				t.Errorf("%c: DENIED is %v", s, denied)
			}
		}
	}
}

// K1 to K3: channels with many acts of all kinds, wrong ones among them.
func TestRandom(t *testing.T) {
	r := rand.New(rand.NewSource(10))
	for range 3000 {
		b := newBench(t)
		for range 100 {
			b.do(randomAct(r))
		}
	}
}

// K1 to K3: all rows of seven acts.
func TestAllRows(t *testing.T) {
	const long = 7
	rows := 1
	for range long {
		rows *= len(acts)
	}
	for row := range rows {
		b := &bench{t: t, c: New(), slow: newSlow()}
		for left := row; len(b.slow.done) < long; left /= len(acts) {
			b.do(acts[left%len(acts)])
		}
	}
}

// holds tells whether K4 does, of a channel that was asked or not since it ran, and behind an act.
func holds(before, now told, asked bool, a act) bool {
	stops := before.state != Stop && now.state == Stop
	quiet := now.state == Stop || !now.accept
	return !(stops && a.active) && !(quiet && !asked) && (now.accept || !now.denied)
}

// K4: whatever is done, it comes to be quiet by no tick that is active, is quiet only if it was asked since it ran last, and never tells ACCEPT low with DENIED high.
func TestNeverQuiet(t *testing.T) {
	r := rand.New(rand.NewSource(11))
	for range 3000 {
		c, asked := New(), false
		for range 100 {
			a, before := randomAct(r), tells(c)
			err := do(c, a)
			if a == ask && err == api.OK {
				asked = true
			}
			if a == leave && err == api.OK {
				asked = false
			}
			if now := tells(c); !holds(before, now, asked, a) {
				t.Fatalf("%v, then %v: %v", before, a, now)
			}
		}
	}
}
