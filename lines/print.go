package lines

import (
	"slices"
	"strconv"
	"strings"

	"catnap/api"
)

func line(words ...string) string { return strings.Join(words, " ") + "\n" }

// numberLine is a line of a word, or of words, and of numbers behind them, none of them below 0.
func numberLine(words string, numbers ...int) string {
	all := []string{words}
	for _, n := range numbers {
		all = append(all, strconv.Itoa(n))
	}
	return line(all...)
}

func clockLine(c api.Clock) string {
	// its own row, as more is written behind it
	numbers := slices.Clone(c.From)
	switch c.Kind {
	case 'o':
		numbers = append(numbers, int(c.Rate))
	case 'p':
		numbers = append(numbers, c.Mul, c.Div, c.Lock)
	case 'd':
		numbers = append(numbers, c.Div)
	}
	return numberLine(wordClock+" "+string(c.Kind), numbers...)
}

func domainLine(d api.Domain) string {
	above := wordNoNode
	if d.Above != api.NoNode {
		above = strconv.Itoa(d.Above)
	}
	return line(wordDomain, above, strconv.Itoa(d.Delay), keeping(d.Ret))
}

func resetLine(r api.Reset) string { return numberLine(wordReset, r.Least) }

func deviceLine(d api.Device) string {
	return numberLine(wordDevice, append([]int{d.Clock, d.Domain, d.Reset, int(d.Clamp)}, d.Needs...)...)
}

func regLine(r api.Reg) string {
	return line(wordReg, strconv.Itoa(int(r.Reset)), keeping(r.Retained))
}

func keeping(kept bool) string {
	if kept {
		return wordKeep
	}
	return wordLose
}
