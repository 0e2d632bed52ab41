package bits

import (
	"math"
	"testing"

	"catnap/api"
)

// words are what the tests over all fields look at: none, all, single bits at both ends, and mixed ones.
var words = []uint32{0, 1, 1 << 31, math.MaxUint32, 0xabcd, 0x80000001, 0x55555555, 0xaaaaaaaa, 0x12345678, 0xdeadbeef}

// wrongFields are fields that are not right, beside those that eachField leaves out.
var wrongFields = []struct{ low, many int }{
	{-1, 1}, {-1, 2}, {-1, 32}, {-32, 32}, {0, 0}, {5, 0}, {32, 0}, {0, -1}, {1, -1}, {33, -1}, {0, 33}, {-1, 33},
	{1, 32}, {31, 2}, {30, 3}, {16, 17}, {32, 1}, {33, 1}, {64, 1}, {1 << 32, 1}, {0, 1 << 32}, {0, 1<<32 + 1},
	{math.MaxInt, 1}, {math.MaxInt, 5}, {math.MinInt, 1}, {math.MinInt, 5}, {0, math.MaxInt}, {0, math.MinInt},
	{1, math.MaxInt}, {math.MaxInt, math.MaxInt}, {math.MinInt, math.MinInt}, {math.MinInt, math.MaxInt},
	{math.MaxInt, math.MinInt}, {math.MinInt, math.MinInt + 8}, {math.MaxInt, math.MinInt + 8},
}

// bit is a single bit, looked at apart from masks.
func bit(w uint32, i int) uint32 { return w / uint32(math.Pow(2, float64(i))) % 2 }

// slowGet adds a field up bit by bit, in 64 bits, where nothing goes round.
func slowGet(w uint32, low, many int) int64 {
	n, weight := int64(0), int64(1)
	for i := range many {
		n += int64(bit(w, low+i)) * weight
		weight *= 2
	}
	return n
}

// slowSigned is a field with a sign by the words of the document: less 2^many, if the highest bit is set.
func slowSigned(w uint32, low, many int) int64 {
	n := slowGet(w, low, many)
	if bit(w, low+many-1) == 1 {
		n -= int64(math.Pow(2, float64(many)))
	}
	return n
}

func eachField(see func(low, many int)) {
	for low := range 32 {
		for many := 1; many <= 32-low; many++ {
			see(low, many)
		}
	}
}

// A1: Get.
func TestGetExamples(t *testing.T) {
	for _, c := range []struct {
		w         uint32
		low, many int
		want      uint32
	}{
		{0xabcd, 4, 8, 0xbc}, {0xabcd, 0, 4, 0xd}, {0xabcd, 0, 1, 1}, {0xabcd, 1, 1, 0}, {0xabcd, 16, 16, 0},
		{0xdeadbeef, 0, 32, 0xdeadbeef}, {0xdeadbeef, 31, 1, 1}, {0xdeadbeef, 28, 4, 0xd}, {0x7fffffff, 31, 1, 0},
		{0xdeadbeef, 1, 31, 0x6f56df77}, {0xdeadbeef, 0, 31, 0x5eadbeef}, {0, 0, 32, 0},
	} {
		if got, err := Get(c.w, c.low, c.many); got != c.want || err != api.OK {
			t.Errorf("Get(%#x, %d, %d) = %#x, %d, want %#x", c.w, c.low, c.many, got, err, c.want)
		}
	}
}

// A1: Signed.
func TestSignedExamples(t *testing.T) {
	for _, c := range []struct {
		w         uint32
		low, many int
		want      int32
	}{
		{0xabcd, 4, 8, -0x44}, {0xabcd, 4, 9, 0xbc}, {0x70, 4, 4, 7}, {0x80, 4, 4, -8}, {0xf0, 4, 4, -1},
		{1, 0, 1, -1}, {0, 0, 1, 0}, {1 << 31, 31, 1, -1}, {1 << 30, 31, 1, 0},
		{1 << 31, 0, 32, math.MinInt32}, {math.MaxInt32, 0, 32, math.MaxInt32}, {math.MaxUint32, 0, 32, -1},
		{1 << 31, 1, 31, -1 << 30}, {1 << 30, 0, 31, -1 << 30}, {1 << 31, 0, 31, 0},
	} {
		if got, err := Signed(c.w, c.low, c.many); got != c.want || err != api.OK {
			t.Errorf("Signed(%#x, %d, %d) = %d, %d, want %d", c.w, c.low, c.many, got, err, c.want)
		}
	}
}

// A1: all fields that are right, bit by bit.
func TestGetAndSignedOfAllFields(t *testing.T) {
	eachField(func(low, many int) {
		for _, w := range words {
			if got, err := Get(w, low, many); int64(got) != slowGet(w, low, many) || err != api.OK {
				t.Errorf("Get(%#x, %d, %d) = %#x, %d", w, low, many, got, err)
			}
			if got, err := Signed(w, low, many); int64(got) != slowSigned(w, low, many) || err != api.OK {
				t.Errorf("Signed(%#x, %d, %d) = %d, %d", w, low, many, got, err)
			}
		}
	})
}

// A1: Put.
func TestPutExamples(t *testing.T) {
	for _, c := range []struct {
		w         uint32
		low, many int
		v, want   uint32
	}{
		{0xffff, 4, 8, 0, 0xf00f}, {0, 4, 8, 0xab, 0xab0}, {0xabcd, 4, 8, 0x12, 0xa12d}, {0xabcd, 4, 8, 0xff, 0xaffd},
		{0, 0, 1, 1, 1}, {1, 0, 1, 0, 0}, {0, 31, 1, 1, 1 << 31}, {math.MaxUint32, 31, 1, 0, math.MaxInt32},
		{math.MaxUint32, 0, 32, 5, 5}, {0, 0, 32, math.MaxUint32, math.MaxUint32}, {1, 1, 31, math.MaxInt32, math.MaxUint32},
	} {
		if got, err := Put(c.w, c.low, c.many, c.v); got != c.want || err != api.OK {
			t.Errorf("Put(%#x, %d, %d, %#x) = %#x, %d, want %#x", c.w, c.low, c.many, c.v, got, err, c.want)
		}
	}
}

// A1: v with a bit that just has no room, and with one far out, in every field that leaves bits out.
func TestPutWithoutRoom(t *testing.T) {
	eachField(func(low, many int) {
		if many == 32 {
			return
		}
		for _, v := range []uint32{1 << many, 1<<many | 1, 1 << 31, math.MaxUint32} {
			if got, err := Put(0xdeadbeef, low, many, v); got != 0 || err != api.ErrArg {
				t.Errorf("Put(0xdeadbeef, %d, %d, %#x) = %#x, %d, want ErrArg", low, many, v, got, err)
			}
		}
	})
}

func seeWrongField(t *testing.T, low, many int) {
	t.Helper()
	for _, w := range words {
		if got, err := Get(w, low, many); got != 0 || err != api.ErrRange {
			t.Errorf("Get(%#x, %d, %d) = %#x, %d, want ErrRange", w, low, many, got, err)
		}
		if got, err := Signed(w, low, many); got != 0 || err != api.ErrRange {
			t.Errorf("Signed(%#x, %d, %d) = %d, %d, want ErrRange", w, low, many, got, err)
		}
		for _, v := range []uint32{0, 1, math.MaxUint32} { // ErrRange comes ahead of ErrArg
			if got, err := Put(w, low, many, v); got != 0 || err != api.ErrRange {
				t.Errorf("Put(%#x, %d, %d, %#x) = %#x, %d, want ErrRange", w, low, many, v, got, err)
			}
		}
	}
}

// A1: fields that are not right, and P1: none of them panics.
func TestWrongFields(t *testing.T) {
	for _, f := range wrongFields {
		seeWrongField(t, f.low, f.many)
	}
	for low := range 33 {
		seeWrongField(t, low, 33-low) // just one bit too many
		seeWrongField(t, low, 0)
		seeWrongField(t, -1-low, low+1)
	}
}

// A2: Count.
func TestCount(t *testing.T) {
	for _, c := range []struct {
		w    uint32
		want int
	}{{0, 0}, {1, 1}, {1 << 31, 1}, {0x80000001, 2}, {0xf0f, 8}, {0x10000, 1}, {math.MaxInt32, 31}, {math.MaxUint32, 32}, {0x55555555, 16}, {0xdeadbeef, 24}} {
		if got := Count(c.w); got != c.want {
			t.Errorf("Count(%#x) = %d, want %d", c.w, got, c.want)
		}
	}
	for i := range 32 {
		if got := Count(1 << i); got != 1 {
			t.Errorf("Count of bit %d alone = %d", i, got)
		}
		if got := Count(^uint32(1 << i)); got != 31 {
			t.Errorf("Count of all but bit %d = %d", i, got)
		}
	}
}

// A2: Turn.
func TestTurnExamples(t *testing.T) {
	for _, c := range []struct {
		w    uint32
		by   int
		want uint32
	}{
		{1, 1, 2}, {1 << 31, 1, 1}, {0x80000001, 1, 3}, {0xdeadbeef, 4, 0xeadbeefd}, {0xdeadbeef, 31, 0xef56df77},
		{1, -1, 1 << 31}, {0xdeadbeef, -4, 0xfdeadbee}, {3, -1, 0x80000001}, {1, -31, 2},
		{0xabc, 0, 0xabc}, {0xabc, 32, 0xabc}, {0xabc, -32, 0xabc}, {0xabc, 64, 0xabc},
		{0xabc, 33, 0x1578}, {0xabc, 36, 0xabc0}, {0xabc0, -36, 0xabc}, {0xabc, 1<<40 + 4, 0xabc0}, {0xabc0, -1<<40 - 4, 0xabc},
		{3, math.MaxInt, 0x80000001}, {3, math.MinInt, 3}, {3, math.MinInt + 1, 6},
	} {
		if got := Turn(c.w, c.by); got != c.want {
			t.Errorf("Turn(%#x, %d) = %#x, want %#x", c.w, c.by, got, c.want)
		}
	}
}

// A2: turned step by step, a single bit each, to both sides.
func TestTurnByAll(t *testing.T) {
	for _, w := range words {
		up, down := w, w
		for by := range 100 {
			if got := Turn(w, by); got != up {
				t.Errorf("Turn(%#x, %d) = %#x, want %#x", w, by, got, up)
			}
			if got := Turn(w, -by); got != down {
				t.Errorf("Turn(%#x, %d) = %#x, want %#x", w, -by, got, down)
			}
			up = up*2 + bit(up, 31)
			down = down/2 + bit(down, 0)*(1<<31)
		}
	}
}

// A3: what is put is got, and all other bits stay.
func TestPutThenGet(t *testing.T) {
	eachField(func(low, many int) {
		for _, w := range words {
			for _, x := range words {
				v := x >> (32 - many)
				put, err := Put(w, low, many, v)
				if err != api.OK {
					t.Fatalf("Put(%#x, %d, %d, %#x): %d", w, low, many, v, err)
				}
				if got, err := Get(put, low, many); got != v || err != api.OK {
					t.Errorf("Get(%#x, %d, %d) = %#x, %d, but %#x was put", put, low, many, got, err, v)
				}
				for i := range 32 {
					if (i < low || i >= low+many) && bit(put, i) != bit(w, i) {
						t.Errorf("Put(%#x, %d, %d, %#x) = %#x: bit %d did not stay", w, low, many, v, put, i)
					}
				}
			}
		}
	})
}

// A3: what is got and put again changes nothing.
func TestGetThenPut(t *testing.T) {
	eachField(func(low, many int) {
		for _, w := range words {
			n, _ := Get(w, low, many)
			if got, err := Put(w, low, many, n); got != w || err != api.OK {
				t.Errorf("Put(%#x, %d, %d, %#x) = %#x, %d, want the word itself", w, low, many, n, got, err)
			}
		}
	})
}
