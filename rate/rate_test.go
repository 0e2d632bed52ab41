package rate

import (
	"math"
	"math/big"
	"testing"

	"catnap/api"
)

const (
	top  = uint64(1) << 40 // the greatest rate
	most = 1000            // the greatest factor
)

// rates are what the tests over many rates look at: the smallest, the greatest, round and uneven ones.
var rates = []uint64{0, 1, 2, 3, 7, 99, 100, 999, 1000, 1001, 32768, 19200000, 999999999, 1 << 30, 1<<30 + 1, top / 1000, top/1000 + 1, top / 7, top / 3, top/2 - 1, top / 2, top/2 + 1, top - 1, top}

// wrongRates are too great, just so and far out.
var wrongRates = []uint64{top + 1, 2 * top, 1 << 63, math.MaxUint64}

// factors are right ones, wrongFactors are not.
var (
	factors      = []int{1, 2, 3, 5, 7, 10, 16, 499, 500, 997, 999, 1000}
	wrongFactors = []int{0, -1, 1001, -1000, 1 << 32, 1<<32 + 1, math.MaxInt, math.MinInt, math.MinInt + 1}
)

func number(n uint64) *big.Int { return new(big.Int).SetUint64(n) }

// slowScale does it in numbers without bounds.
func slowScale(r uint64, mul, div int) (uint64, api.Errno) {
	n := new(big.Int).Mul(number(r), big.NewInt(int64(mul)))
	n.Div(n, big.NewInt(int64(div)))
	if n.Cmp(number(top)) > 0 {
		return 0, api.ErrRange
	}
	return n.Uint64(), api.OK
}

// slowDivisor tries all divisors one behind the other, by what the document says of one.
func slowDivisor(r uint64, right func(n uint64) bool) (int, api.Errno) {
	for div := 1; div <= most; div++ {
		if right(new(big.Int).Div(number(r), big.NewInt(int64(div))).Uint64()) {
			return div, api.OK
		}
	}
	return 0, api.ErrNone
}

func seeScale(t *testing.T, r uint64, mul, div int, want uint64, e api.Errno) {
	t.Helper()
	if got, err := Scale(r, mul, div); got != want || err != e {
		t.Errorf("Scale(%d, %d, %d) = %d, %d, want %d, %d", r, mul, div, got, err, want, e)
	}
}

func seeFit(t *testing.T, r, want uint64, div int, e api.Errno) {
	t.Helper()
	if got, err := Fit(r, want); got != div || err != e {
		t.Errorf("Fit(%d, %d) = %d, %d, want %d, %d", r, want, got, err, div, e)
	}
}

func seeBelow(t *testing.T, r, want uint64, div int, e api.Errno) {
	t.Helper()
	if got, err := Below(r, want); got != div || err != e {
		t.Errorf("Below(%d, %d) = %d, %d, want %d, %d", r, want, got, err, div, e)
	}
}

// B1: ordinary ones, and what is left over is left out behind the multiplying, not ahead of it.
func TestScaleExamples(t *testing.T) {
	seeScale(t, 100, 3, 7, 42, api.OK)
	seeScale(t, 19200000, 125, 2, 1200000000, api.OK)
	seeScale(t, 10, 9, 4, 22, api.OK)
	seeScale(t, 999, 1, 1000, 0, api.OK)
	seeScale(t, 1000, 1, 1000, 1, api.OK)
	seeScale(t, 1999, 1, 1000, 1, api.OK)
	seeScale(t, 0, 1000, 1, 0, api.OK)
	seeScale(t, 7, 1, 1, 7, api.OK)
	seeScale(t, 7, 1000, 1000, 7, api.OK)
}

// B1: at the greatest rate.
func TestScaleAtTheTop(t *testing.T) {
	seeScale(t, top, 1, 1, top, api.OK)
	seeScale(t, top, 1000, 1000, top, api.OK)
	seeScale(t, top, 1, 1000, 1099511627, api.OK)
	seeScale(t, top/2, 2, 1, top, api.OK)
	seeScale(t, top/2+1, 2, 1, 0, api.ErrRange)
	seeScale(t, top, 2, 1, 0, api.ErrRange)
	seeScale(t, top, 1000, 1, 0, api.ErrRange)
	seeScale(t, top, 1000, 999, 0, api.ErrRange)
	seeScale(t, top-1, 1000, 999, 0, api.ErrRange)
	// 5*2^40 + 4 by 5: only what is left out is over the bound
	seeScale(t, (5*top+4)/7, 7, 5, top, api.OK)
	// 5*2^40 + 11 by 5: one more
	seeScale(t, (5*top+4)/7+1, 7, 5, 0, api.ErrRange)
}

// B1: many rates by many factors, held against numbers without bounds.
func TestScaleOfMany(t *testing.T) {
	for _, r := range rates {
		for _, mul := range factors {
			for _, div := range factors {
				want, e := slowScale(r, mul, div)
				seeScale(t, r, mul, div, want, e)
			}
		}
	}
}

// B1: ErrArg, for each of the parts alone and for all of them, ahead of ErrRange.
func TestScaleOfWrong(t *testing.T) {
	for _, r := range wrongRates {
		seeScale(t, r, 1, 1, 0, api.ErrArg)
		seeScale(t, r, 1, 1000, 0, api.ErrArg)
		seeScale(t, r, 1000, 1, 0, api.ErrArg)
		seeScale(t, r, 0, 0, 0, api.ErrArg)
	}
	for _, n := range wrongFactors {
		for _, r := range rates {
			seeScale(t, r, n, 1, 0, api.ErrArg)
			seeScale(t, r, 1, n, 0, api.ErrArg)
			seeScale(t, r, 1000, n, 0, api.ErrArg)
			seeScale(t, r, n, n, 0, api.ErrArg)
		}
	}
}

// B2: Fit.
func TestFitExamples(t *testing.T) {
	seeFit(t, 100, 33, 3, api.OK)
	seeFit(t, 100, 100, 1, api.OK)
	seeFit(t, 100, 50, 2, api.OK)
	seeFit(t, 100, 1, 51, api.OK) // 51 to 100 all do: the least one
	seeFit(t, 100, 40, 0, api.ErrNone)
	seeFit(t, 100, 101, 0, api.ErrNone)
	seeFit(t, 100, math.MaxUint64, 0, api.ErrNone)
	seeFit(t, 0, 1, 0, api.ErrNone)
	seeFit(t, 1, 1, 1, api.OK)
	seeFit(t, top, top, 1, api.OK)
	seeFit(t, top, top/2, 2, api.OK)
	seeFit(t, top, top-1, 0, api.ErrNone)
	seeFit(t, top, top+1, 0, api.ErrNone)
}

// B2: Below.
func TestBelowExamples(t *testing.T) {
	seeBelow(t, 100, 33, 3, api.OK)
	seeBelow(t, 100, 34, 3, api.OK)
	seeBelow(t, 100, 32, 4, api.OK)
	seeBelow(t, 100, 100, 1, api.OK)
	seeBelow(t, 100, 99, 2, api.OK)
	seeBelow(t, 100, 1, 51, api.OK)
	seeBelow(t, 100, 101, 1, api.OK)
	seeBelow(t, 100, math.MaxUint64, 1, api.OK)
	seeBelow(t, 0, 1, 1, api.OK)
	seeBelow(t, top, top+1, 1, api.OK)
	seeBelow(t, top, top, 1, api.OK)
	seeBelow(t, top, top-1, 2, api.OK)
	seeBelow(t, top, 1, 0, api.ErrNone)
}

// B2: the divisors end with 1000, which is one of them.
func TestDivisorsAtTheEnd(t *testing.T) {
	seeFit(t, 1000000, 1000, 1000, api.OK)
	seeFit(t, 1000999, 1000, 1000, api.OK)
	seeFit(t, 999999, 1001, 999, api.OK)
	seeFit(t, 999999, 1000, 0, api.ErrNone) // leapt over between 999 and 1000
	seeFit(t, 999999, 999, 1000, api.OK)
	seeFit(t, 1001000, 1000, 0, api.ErrNone)
	seeFit(t, top, top/1000, 1000, api.OK)
	seeFit(t, top, top/1000-1, 0, api.ErrNone)
	seeBelow(t, 1000999, 1000, 1000, api.OK)
	seeBelow(t, 1001000, 1000, 0, api.ErrNone)
	seeBelow(t, top, top/1000, 1000, api.OK)
	seeBelow(t, top, top/1000-1, 0, api.ErrNone)
}

// B2: all small ones, and many at the edges of divisors, tried one behind the other.
func TestDivisorsOfMany(t *testing.T) {
	see := func(r, want uint64) {
		div, e := slowDivisor(r, func(n uint64) bool { return n == want })
		seeFit(t, r, want, div, e)
		div, e = slowDivisor(r, func(n uint64) bool { return n <= want })
		seeBelow(t, r, want, div, e)
	}
	for r := range uint64(80) {
		for want := uint64(1); want <= 82; want++ {
			see(r, want)
		}
	}
	for _, r := range rates {
		for _, n := range factors {
			for _, near := range []int64{-1, 0, 1} {
				if want := int64(r)/int64(n) + near; want > 0 {
					see(r, uint64(want))
				}
			}
		}
	}
}

// B2: ErrArg, ahead of ErrNone.
func TestDivisorsOfWrong(t *testing.T) {
	for _, r := range rates {
		seeFit(t, r, 0, 0, api.ErrArg)
		seeBelow(t, r, 0, 0, api.ErrArg)
	}
	for _, r := range wrongRates {
		for _, want := range []uint64{0, 1, 7, top, r, math.MaxUint64} {
			seeFit(t, r, want, 0, api.ErrArg)
			seeBelow(t, r, want, 0, api.ErrArg)
		}
	}
}

func seeGcd(t *testing.T, a, b, want uint64) {
	t.Helper()
	if got := Gcd(a, b); got != want {
		t.Errorf("Gcd(%d, %d) = %d, want %d", a, b, got, want)
	}
	if got := Gcd(b, a); got != want {
		t.Errorf("Gcd(%d, %d) = %d, want %d", b, a, got, want)
	}
}

// B3: either way round, with 0, and beyond all rates.
func TestGcdExamples(t *testing.T) {
	seeGcd(t, 12, 18, 6)
	seeGcd(t, 7, 13, 1)
	seeGcd(t, 7, 49, 7)
	seeGcd(t, 1, 1, 1)
	seeGcd(t, 1, math.MaxUint64, 1)
	seeGcd(t, 0, 0, 0)
	seeGcd(t, 0, 5, 5)
	seeGcd(t, 0, math.MaxUint64, math.MaxUint64)
	seeGcd(t, math.MaxUint64, math.MaxUint64, math.MaxUint64)
	seeGcd(t, math.MaxUint64, math.MaxUint64-1, 1)
	seeGcd(t, math.MaxUint64, 3*5*17, 3*5*17)
	seeGcd(t, 1<<63, 1<<40, 1<<40)
	seeGcd(t, 1<<63, 3<<62, 1<<62)
	seeGcd(t, 12200160415121876738, 7540113804746346429, 1) // of all pairs these two take the most steps
}

// B3: all small ones, by trying all that might divide.
func TestGcdOfSmall(t *testing.T) {
	for a := uint64(1); a <= 60; a++ {
		for b := uint64(1); b <= 60; b++ {
			want := uint64(0)
			for n := uint64(1); n <= 60; n++ {
				if a%n == 0 && b%n == 0 {
					want = n
				}
			}
			seeGcd(t, a, b, want)
		}
	}
}

// B4: what fits is below, too, by the same divisor.
func TestWhatFitsIsBelow(t *testing.T) {
	for _, r := range rates {
		for n := 1; n <= most; n++ {
			want := r / uint64(n)
			if want == 0 {
				continue
			}
			div, err := Fit(r, want)
			if err != api.OK || div > n || r/uint64(div) != want {
				t.Errorf("Fit(%d, %d) = %d, %d, but %d fits", r, want, div, err, n)
			}
			seeBelow(t, r, want, div, api.OK)
		}
	}
}

// B4: scaled up and down by the same.
func TestScaledUpAndDown(t *testing.T) {
	for _, r := range rates {
		for n := 1; n <= most; n++ {
			seeScale(t, r, n, n, r, api.OK)
			up, err := Scale(r, n, 1)
			if r <= top/uint64(n) != (err == api.OK) {
				t.Errorf("Scale(%d, %d, 1): %d", r, n, err)
			}
			if err == api.OK {
				seeScale(t, up, 1, n, r, api.OK)
			}
		}
	}
}
