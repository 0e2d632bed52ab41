package conf

import (
	"slices"

	"catnap/api"
	"catnap/graph"
)

// Kinds of clocks.
const (
	oscillator = 'o'
	pll        = 'p'
	mux        = 'm'
	divider    = 'd'
	gate       = 'g'
)

// Limits that api does not name.
const (
	mostFrom  = 4 // of a mux
	mostNeeds = 6 // of a device
)

// look is a look for an error: OK, if there is none.
type look func() api.Errno

// first is the first error that the looks find, one behind the other; those behind it are not done.
func first(looks ...look) api.Errno {
	for _, find := range looks {
		if err := find(); err != api.OK {
			return err
		}
	}
	return api.OK
}

// unless finds err, if something is not right.
func unless(right bool, err api.Errno) look {
	return func() api.Errno {
		if right {
			return api.OK
		}
		return err
	}
}

// each looks at the parts one by one.
func each[P any](parts []P, check func(part P) api.Errno) look {
	return func() api.Errno {
		var looks []look
		for _, p := range parts {
			looks = append(looks, func() api.Errno { return check(p) })
		}
		return first(looks...)
	}
}

// circle finds what is not right in one of the graphs of a chip: behind all else only that something hangs on itself.
func circle(s api.Soc, graphOf func(s api.Soc) [][]int) look {
	return func() api.Errno { return graph.Check(graphOf(s)) }
}

func within[N int | uint64](n, least, most N) bool { return n >= least && n <= most }

func isFactor(n int) bool { return within(n, 1, api.MaxFactor) }

func areTicks(n int) bool { return within(n, 0, api.MaxTicks) }

// areNodes tells whether all numbers are those of some of so many parts.
func areNodes(parts int, numbers ...int) bool {
	return !slices.ContainsFunc(numbers, func(n int) bool { return !within(n, 0, parts-1) })
}

// fits tells whether no more is there than a chip has room for.
func fits(s api.Soc) bool {
	return len(s.Clocks) <= api.MaxClocks && len(s.Domains) <= api.MaxDomains &&
		len(s.Resets) <= api.MaxResets && len(s.Devices) <= api.MaxDevices &&
		!slices.ContainsFunc(s.Devices, overfull)
}

func overfull(d api.Device) bool { return len(d.Regs) > api.MaxRegs || len(d.Needs) > mostNeeds }

func checkClock(s api.Soc, c api.Clock) api.Errno {
	return first(
		unless(isJoined(c), api.ErrArg),
		unless(areNodes(len(s.Clocks), c.From...), api.ErrNode),
		unless(isInRange(c), api.ErrRange),
	)
}

// isJoined tells whether a clock is of some kind, and comes from as many as clocks of its kind do.
func isJoined(c api.Clock) bool {
	switch c.Kind {
	case oscillator:
		return len(c.From) == 0
	case pll, divider, gate:
		return len(c.From) == 1
	case mux:
		return within(len(c.From), 1, mostFrom)
	}
	return false
}

// isInRange looks at the numbers that a clock's kind has a use for, and at no others.
func isInRange(c api.Clock) bool {
	switch c.Kind {
	case oscillator:
		return within(c.Rate, 1, api.MaxRate)
	case pll:
		return isFactor(c.Mul) && isFactor(c.Div) && areTicks(c.Lock)
	case divider:
		return isFactor(c.Div)
	}
	return true
}

func checkDomain(s api.Soc, d api.Domain) api.Errno {
	return first(
		unless(d.Above == api.NoNode || areNodes(len(s.Domains), d.Above), api.ErrNode),
		unless(areTicks(d.Delay), api.ErrRange),
	)
}

func checkReset(r api.Reset) api.Errno { return first(unless(areTicks(r.Least), api.ErrRange)) }

func checkDevice(s api.Soc, d api.Device) api.Errno {
	return first(
		unless(areNodes(len(s.Clocks), d.Clock), api.ErrNode),
		unless(areNodes(len(s.Domains), d.Domain), api.ErrNode),
		unless(areNodes(len(s.Resets), d.Reset), api.ErrNode),
		unless(areNodes(len(s.Devices), d.Needs...), api.ErrNode),
	)
}
