package quiet

import (
	"math/rand"
	"testing"
)

// K1, K2: a new channel that is ticked, or left, is still as a new one.
func TestNewIsTicked(t *testing.T) {
	b := newBench(t)
	for range 10 {
		b.become(running(0), ticks...)
		b.errs(leave)
	}
	b.become(asked(0), ask)
}

// K2, K4: a channel that is asked, and stays active for many ticks, stays asked: quiet, or denied, only by the tick that says so.
func TestStaysActive(t *testing.T) {
	for _, many := range []int{0, 1, 2, 20, 21, 255, 256, 257, 1000} {
		for _, last := range []act{rest, deny, both} {
			b := newBench(t)
			b.become(asked(0), append([]act{ask}, times(many, busy)...)...)
			b.errs(ask)
			b.errs(leave)
			if last == rest {
				b.become(stopped(), last)
			} else {
				b.become(denying(1), last)
			}
		}
	}
}

// K2: behind an end of the asking, be it STOP, DENY or RUN, no tick does anything, however many there are.
func TestTicksBehindTheEnd(t *testing.T) {
	for _, c := range []struct {
		acts []act
		want told
	}{
		{[]act{ask, rest}, stopped()},
		{[]act{ask, deny}, denying(1)},
		{[]act{ask, both}, denying(1)},
		{[]act{ask, rest, leave}, running(0)},
		{[]act{ask, deny, leave}, running(1)},
	} {
		b := newBench(t)
		b.do(c.acts...)
		for range 30 {
			for _, a := range ticks {
				b.become(c.want, a)
			}
		}
	}
}

// K2: denied, left and asked again: Denied counts one behind the other, and is as it was behind Leave, and behind Ask.
func TestDeniedAgain(t *testing.T) {
	for _, d := range []act{deny, both} {
		b := newBench(t)
		for n := range 300 {
			b.become(asked(n), ask)
			b.become(asked(n), busy)
			b.become(denying(n+1), d)
			b.errs(ask)
			b.become(denying(n+1), ticks...)
			b.become(running(n+1), leave)
			b.errs(leave)
			b.become(running(n+1), ticks...)
		}
		b.become(stopped(), ask, rest)
	}
}

// K2: more denials than a small number holds are counted, all of them.
func TestDeniedManyTimes(t *testing.T) {
	c := New()
	for n := range 1<<16 + 300 {
		for _, a := range []act{ask, deny, leave} {
			do(c, a)
		}
		if got := c.Denied(); got != n+1 {
			t.Fatalf("%d, want %d", got, n+1)
		}
	}
	do(c, ask)
	do(c, rest)
	if got := tells(c); got != stopped() {
		t.Errorf("%v, want %v", got, stopped())
	}
}

// K2: what was denied ahead of STOP is not told in STOP, nor behind it; what is denied behind it counts from one on.
func TestDeniedBehindStop(t *testing.T) {
	b := newBench(t)
	for n := range 20 {
		for range 3 {
			b.do(times(n, ask, deny, leave)...)
			b.become(asked(n), ask)
			b.become(stopped(), rest)
			b.errs(ask)
			b.become(stopped(), ticks...)
			b.become(running(0), leave)
			b.become(running(0), ticks...)
		}
	}
	b.become(denying(1), ask, both)
	b.become(denying(2), leave, ask, deny)
}

// K1, K2: it is left out of DENY without a STOP between: what it denied is still told, however often it is.
func TestLeaveKeepsDenied(t *testing.T) {
	b := newBench(t)
	b.do(times(5, ask, deny, leave)...)
	for range 5 {
		b.errs(leave)
		b.is(running(5))
	}
	b.become(asked(5), ask)
	for range 5 {
		b.errs(leave)
		b.errs(ask)
		b.is(asked(5))
	}
	b.become(asked(5), times(50, busy)...)
	b.become(denying(6), both)
}

// K4: ticks without any Ask between make nothing quiet, nor deny anything, whether it is new, or was quiet, or denied.
func TestNotAsked(t *testing.T) {
	r := rand.New(rand.NewSource(12))
	for _, w := range ways()[Run] {
		b := newBench(t)
		b.do(w.acts...)
		for range 200 {
			b.become(w.told, ticks[r.Intn(len(ticks))])
		}
	}
}

// P4: two channels know nothing of one another, in whichever states they are.
func TestTwoChannels(t *testing.T) {
	for _, first := range ways() {
		for _, second := range ways() {
			for _, v := range first {
				for _, w := range second {
					a, b := newBench(t), newBench(t)
					a.become(v.told, v.acts...)
					b.become(w.told, w.acts...)
					a.is(v.told)
					a.do(acts...)
					b.is(w.told)
					a.see()
				}
			}
		}
	}
}

// P4: channels in any number, act by act in any order, and one that does the same again.
func TestManyChannels(t *testing.T) {
	r := rand.New(rand.NewSource(13))
	for range 200 {
		all := []*bench{newBench(t), newBench(t), newBench(t), newBench(t)}
		for range 100 {
			all[r.Intn(3)].do(randomAct(r)) // the last one is left alone
			for _, b := range all {
				b.see()
			}
		}
		all[3].is(running(0))
		again := newBench(t)
		again.become(tells(all[0].c), all[0].slow.done...)
	}
}
