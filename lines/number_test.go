package lines

import (
	"math/rand"
	"strconv"
	"strings"
	"testing"
)

// F1: numbers of one digit to 15, and noughts within and behind.
func TestNumbers(t *testing.T) {
	for w, want := range map[string]uint64{
		"0": 0, "1": 1, "9": 9, "10": 10, "90": 90, "100": 100, "1001": 1001, "4294967295": 1<<32 - 1, "4294967296": 1 << 32, "1099511627776": 1 << 40,
		"99999999999999": 99999999999999, "100000000000000": 100000000000000, "123456789012345": 123456789012345, "999999999999999": 999999999999999,
	} {
		seeNumber(t, w, want, true)
	}
	for n := range 100000 {
		seeNumber(t, strconv.Itoa(n), uint64(n), true)
		seeNumber(t, strconv.Itoa(-n-1), 0, false)
		seeNumber(t, "0"+strconv.Itoa(n), 0, false)
	}
	r := rand.New(rand.NewSource(1))
	for range 100000 {
		n := r.Int63() >> r.Intn(64)
		isOne := n < 1e15
		want := uint64(n)
		if !isOne {
			want = 0
		}
		seeNumber(t, strconv.FormatInt(n, 10), want, isOne)
	}
}

// F1: no number has more than 15 digits, also where 64 bits would have gone round, or noughts ahead.
func TestNumbersOfAllLengths(t *testing.T) {
	for many := range 100 {
		for _, digit := range "0123456789" {
			w := strings.Repeat(string(digit), many)
			if many >= 1 && many <= 15 && (digit != '0' || many == 1) {
				n, _ := strconv.ParseUint(w, 10, 64)
				seeNumber(t, w, n, true)
			} else {
				seeNumber(t, w, 0, false)
			}
			seeNumber(t, "0"+w+string(digit), 0, false)
		}
	}
	seeNumber(t, "18446744073709551616", 0, false)
	seeNumber(t, strings.Repeat("0", 15)+"1", 0, false)
	seeNumber(t, strings.Repeat("1", 1<<20), 0, false)
}

// F1: all words of one byte and of two, and each byte at each place of a longer one.
func TestNumbersHaveDigitsOnly(t *testing.T) {
	isDigit := func(b int) bool { return b >= '0' && b <= '9' }
	for a := range 256 {
		if isDigit(a) {
			seeNumber(t, string([]byte{byte(a)}), uint64(a-'0'), true)
		} else {
			seeNumber(t, string([]byte{byte(a)}), 0, false)
		}
		for b := range 256 {
			w := string([]byte{byte(a), byte(b)})
			if isDigit(a) && isDigit(b) && a != '0' {
				seeNumber(t, w, uint64(a-'0')*10+uint64(b-'0'), true)
			} else {
				seeNumber(t, w, 0, false)
			}
		}
		for place := range 15 {
			w := []byte("123456789123456")
			if w[place] = byte(a); !isDigit(a) {
				seeNumber(t, string(w), 0, false)
			}
		}
	}
	for _, w := range []string{"", " ", "+1", "-0", "1 ", " 1", "1\n", "1_0", "0x1", "1e3", "1.0", "١", "１", "-", "keep", "\x00", "1\x00"} {
		seeNumber(t, w, 0, false)
	}
}
