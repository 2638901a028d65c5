package tests

import (
	"regexp"
	"slices"
	"strings"
	"testing"

	"loop.example/powercontrol/impl"
)

func TestP95FewerSteps(t *testing.T) {
	for _, list := range goodOrders() {
		for rest := list; len(rest) > 0; rest = rest[1:] {
			check(t, impl.OrderValid(rest), list, rest)
		}
		check(t, impl.OrderValid(list), list)
		for at := range list {
			for _, to := range []bool{false, true} {
				other := slices.Clone(list)
				other[at] = impl.Step{At: impl.MaxLines, To: to}
				check(t, !impl.OrderValid(other), "the line MaxLines", other)
			}
		}
		check(t, !impl.OrderValid(append(slices.Clone(list), impl.Step{At: impl.MaxLines})), "with one more", list)
	}
}

func TestP95WithoutSteps(t *testing.T) {
	check(t, impl.OrderValid(nil), "nil")
	check(t, impl.OrderValid([]impl.Step{}), "empty")
}

func TestP95Bounds(t *testing.T) {
	check(t, impl.MaxSteps == 12, impl.MaxSteps)
	for many := range 30 {
		list := anySteps(int64(many), many, impl.MaxLines)
		check(t, impl.OrderValid(list) == (many <= 12), "steps", many)
	}
	for line := -20; line <= 40; line++ {
		for _, to := range []bool{false, true} {
			list := []impl.Step{{At: line, To: to}}
			check(t, impl.OrderValid(list) == (0 <= line && line <= 9), list)
		}
	}
	for told, list := range badOrders() {
		check(t, !impl.OrderValid(list), told, list)
	}
}

// readBack checks that a text is the one of an order, and that the order is read from it.
func readBack(t *testing.T, list []impl.Step, s string) {
	t.Helper()
	check(t, impl.OrderText(list) == s, "text", list, impl.OrderText(list), s)
	got, ok := impl.ReadOrder(s)
	check(t, ok && slices.Equal(got, list), "read", s, got, ok, list)
}

func TestP96TextsAreRead(t *testing.T) {
	for _, list := range goodOrders() {
		readBack(t, list, orderWords(list))
	}
}

func TestP96TextsByHand(t *testing.T) {
	for s, steps := range map[string]string{
		"nothing":         "",
		"on 0":            "+0",
		"off 0":           "-0",
		"on 9":            "+9",
		"on 3;off 0":      "+3 -0",
		"off 0;on 3":      "-0 +3",
		"on 3;on 3;off 3": "+3 +3 -3",
		"off 1;on 2;off 4;on 8;off 9;on 7;off 5;on 0;off 0;on 6;on 3;on 1": "-1 +2 -4 +8 -9 +7 -5 +0 -0 +6 +3 +1",
		"on 9" + strings.Repeat(";on 9", 11):                               "+9 +9 +9 +9 +9 +9 +9 +9 +9 +9 +9 +9",
	} {
		readBack(t, order(steps), s)
	}
}

func TestP96OrdersThatAreNotValidHaveNoText(t *testing.T) {
	for told, list := range badOrders() {
		check(t, impl.OrderText(list) == "", told, list, impl.OrderText(list))
	}
}

var orderPattern = regexp.MustCompile(`\A(nothing|(on|off) [0-9](;(on|off) [0-9]){0,11})\z`)

// isReadIf checks that a text is read exactly if it should be, and that it then is the text of the order.
func isReadIf(t *testing.T, s string, should bool) {
	t.Helper()
	list, ok := impl.ReadOrder(s)
	check(t, ok == should, s, list, ok)
	if ok {
		check(t, impl.OrderValid(list) && impl.OrderText(list) == s && orderWords(list) == s, s, list)
	} else {
		check(t, list == nil, "not refused whole", s, list)
	}
}

func TestP97Canonical(t *testing.T) {
	for k, list := range goodOrders() {
		s := orderWords(list)
		isReadIf(t, s, true)
		for _, more := range []string{";", " ", ";;", "; ", "\n", "\x00", "0", ";nothing", ";on", ";on ", ";on 10", "nothing"} {
			isReadIf(t, s+more, false)
		}
		for _, before := range []string{";", " ", "\n", "nothing;", "on;", "+", "0"} {
			isReadIf(t, before+s, false)
		}
		if k%11 == 0 {
			for _, near := range nearTexts(s, "0159 ;onfgNO+-x\n\x00\xff") {
				isReadIf(t, near, orderPattern.MatchString(near))
			}
		}
	}
}

// One step more than there may be, and many more.
func TestP97TooManySteps(t *testing.T) {
	for _, step := range []string{"on 0", "off 0", "on 9", "off 5"} {
		for many := 1; many <= 40; many++ {
			s := strings.Repeat(";"+step, many)[1:]
			isReadIf(t, s, many <= impl.MaxSteps)
			isReadIf(t, s+";", false)
			isReadIf(t, s+strings.Repeat(";", many), false)
		}
		isReadIf(t, strings.Repeat(";"+step, 5000)[1:], false)
	}
}

func TestP97Refused(t *testing.T) {
	long := strings.Repeat("9", 5000)
	for _, s := range []string{
		"", " ", ";", ";;", strings.Repeat(";", 11), strings.Repeat(";", 12), strings.Repeat(";", 5000), "\n", "\x00", "\xff", "0", "3", "on", "off", "on;off", "on ", "off ", " 0",
		"on 10", "off 10", "on 11", "on 99", "on -1", "off -1", "on -0", "on +0", "on +3", "on 00", "on 03", "on 3.", "on 0x3", "on 1_0", "on 3e0", "on x", "on ３", "on ٣", "on ²",
		"on  3", "on 3 ", " on 3", "on\t3", "on\u00a03", "on3", "3 on", "on 3 3", "on 3 on", "on 3on 4", "on 3 on 4", "on 3,on 4", "on 3;;on 4", "on 3; on 4", "on 3 ;on 4", "on 3\n;on 4", ";on 3", "on 3;",
		"On 3", "ON 3", "oN 3", "Off 3", "OFF 3", "of 3", "offf 3", "o 3", "n 3", "onn 3", "onoff 3", "true 3", "false 3", "1 3", "0 3", "-3", "+3", " 3", "to 3", "nothing 3",
		"Nothing", "NOTHING", "nothin", "nothing ", " nothing", "nothing;", ";nothing", "nothing;nothing", "nothing;on 3", "on 3;nothing", "not", "none", "nil", "nothing\x00",
		"on " + long, "off -" + long, long, "on 18446744073709551619", "on 4294967299", "on 259", "off 256", "on 9223372036854775807", "off -9223372036854775808",
		"on 3;off 10", "off 10;on 3", "on 3;off -1", "on 3;off", "off;on 3", "on 3;x", "on 0;on 1;on 2;on 3;on 4;on 5;on 6;on 7;on 8;on 9;on 10",
	} {
		isReadIf(t, s, false)
	}
}

func ordersLead(t *testing.T, a []bool, b []bool) {
	t.Helper()
	list := impl.OrderTo(a, b)
	check(t, impl.OrderValid(list) && len(list) == len(impl.Changes(a, b)) && len(list) == len(differ(a, b)), a, b, list)
	var want []impl.Step
	for _, to := range []bool{false, true} {
		for line := range a {
			if a[line] != to && b[line] == to {
				want = append(want, impl.Step{At: line, To: to})
			}
		}
	}
	check(t, slices.Equal(list, want), a, b, list, want)
	n := parallelNet(2, len(a))
	after, done := impl.OrderRun(n, a, list)
	check(t, slices.Equal(after, b) && done == len(list), a, b, list, after, done)
}

func TestP98OrdersLead(t *testing.T) {
	for lines := range 7 {
		for _, a := range allStates(lines) {
			for _, b := range allStates(lines) {
				ordersLead(t, a, b)
			}
		}
	}
	for seed := range int64(600) {
		lines := int(seed) % (impl.MaxLines + 1)
		ordersLead(t, someState(seed, lines), someState(seed+1000, lines))
	}
	// No order between two states has more steps than these.
	off, all := make([]bool, impl.MaxLines), slices.Repeat([]bool{true}, impl.MaxLines)
	ordersLead(t, off, all)
	ordersLead(t, all, off)
	check(t, len(impl.OrderTo(off, all)) == 10 && len(impl.OrderTo(all, off)) == 10, "all ten")
}

func TestP98NothingToSwitch(t *testing.T) {
	for lines := range impl.MaxLines + 1 {
		for _, on := range allStates(lines) {
			list := impl.OrderTo(on, slices.Clone(on))
			check(t, len(list) == 0 && impl.OrderText(list) == "nothing", on, list)
		}
	}
	check(t, len(impl.OrderTo(nil, nil)) == 0 && len(impl.OrderTo(nil, []bool{})) == 0 && len(impl.OrderTo([]bool{}, nil)) == 0, "no lines")
}

func TestP98OrdersByHand(t *testing.T) {
	for _, x := range []struct{ from, to, steps string }{
		{"", "", ""},
		{"0", "1", "+0"},
		{"1", "0", "-0"},
		{"01", "10", "-1 +0"},
		{"10", "01", "-0 +1"},
		{"1010", "0111", "-0 +1 +3"},
		{"0111", "1010", "-1 -3 +0"},
		{"1111", "0000", "-0 -1 -2 -3"},
		{"0000", "1111", "+0 +1 +2 +3"},
		{"0000000001", "1000000000", "-9 +0"},
		{"0101010101", "1010101010", "-1 -3 -5 -7 -9 +0 +2 +4 +6 +8"},
	} {
		list := impl.OrderTo(state(x.from), state(x.to))
		check(t, slices.Equal(list, order(x.steps)), x, list)
	}
}

func TestP98NoOrderForOtherArguments(t *testing.T) {
	var list [][]bool
	for lines := range impl.MaxLines + 1 {
		list = append(list, make([]bool, lines), slices.Repeat([]bool{true}, lines))
	}
	list = append(list, longStates()...)
	refused := 0
	for _, a := range list {
		for _, b := range list {
			if len(a) != len(b) || len(a) > impl.MaxLines {
				check(t, impl.OrderTo(a, b) == nil, a, b, impl.OrderTo(a, b))
				refused++
			}
		}
	}
	check(t, refused > 1000, "too few", refused)
	// Also of states that are too long but differ in a few lines alone.
	for lines := impl.MaxLines + 1; lines < 40; lines++ {
		for line := range lines {
			a, b := make([]bool, lines), make([]bool, lines)
			b[line] = true
			check(t, impl.OrderTo(a, b) == nil && impl.OrderTo(b, a) == nil, lines, line)
		}
	}
}

func TestP99WhatWasDoneCanBeUndone(t *testing.T) {
	none, some, all := 0, 0, 0
	eachOrderRun(func(n impl.Net, on []bool, list []impl.Step) {
		after, done := impl.OrderRun(n, on, list)
		check(t, 0 <= done && done <= len(list), n, on, list, done)
		alone, same := impl.OrderRun(n, on, list[:done])
		check(t, slices.Equal(alone, after) && same == done, "alone", n, on, list, after, alone, done, same)
		back, undone := impl.OrderRun(n, after, impl.OrderBack(list[:done]))
		check(t, slices.Equal(back, on) && undone == done, "back", n, on, list, after, back, done, undone)
		switch done {
		case 0:
			none++
		case len(list):
			all++
		default:
			some++
		}
	})
	check(t, none > 1000 && some > 1000 && all > 1000, "too few", none, some, all)
}

// The run ends at the first step that cannot be done, and leaves the steps behind it out.
func TestP99OrderRun(t *testing.T) {
	noSuchLine, noChange := 0, 0
	eachOrderRun(func(n impl.Net, on []bool, list []impl.Step) {
		after, done := impl.OrderRun(n, on, list)
		want, many := afterSteps(on, list)
		check(t, slices.Equal(after, want) && done == many, n, on, list, after, done, want, many)
		switch {
		case done == len(list):
		case list[done].At >= len(on):
			noSuchLine++
		default:
			noChange++
		}
	})
	check(t, noSuchLine > 1000 && noChange > 1000, "too few", noSuchLine, noChange)
}

func TestP99OrderRunByHand(t *testing.T) {
	for _, x := range []struct {
		from  string
		steps string
		to    string
		done  int
	}{
		{"", "", "", 0},
		{"101", "", "101", 0},
		{"1010", "+3 -0", "0011", 2},
		// Steps that would change nothing.
		{"1010", "+0 +1", "1010", 0},
		{"1010", "-1 -0", "1010", 0},
		{"1010", "+1 +1 -0", "1110", 1},
		{"1010", "-0 -2 -0 +1", "0000", 2},
		{"0", "+0 -0 +0 -0 +0 -0 +0 -0 +0 -0 +0 -0", "0", 12},
		{"0", "+0 -0 +0 -0 +0 -0 +0 -0 +0 -0 +0 +0", "1", 11},
		// Lines that an order may name but the network does not have.
		{"", "+0", "", 0},
		{"", "-9 +0", "", 0},
		{"10", "+1 +2 -0", "11", 1},
		{"10", "-2 -0", "10", 0},
		{"10", "-9 -0", "10", 0},
		{"10", "-0 -1", "00", 1},
		{"000000000", "+8 +9", "000000001", 1},
		{"0000000000", "+9 +0 -9", "1000000000", 3},
	} {
		on := state(x.from)
		after, done := impl.OrderRun(parallelNet(2, len(on)), on, order(x.steps))
		check(t, slices.Equal(after, state(x.to)) && done == x.done, x, after, done)
	}
}

func nothingRuns(t *testing.T, n impl.Net, on []bool, list []impl.Step, told string) {
	t.Helper()
	after, done := impl.OrderRun(n, on, list)
	check(t, after == nil && done == 0, told, n, on, list, after, done)
}

func TestP99NothingRunsForOtherArguments(t *testing.T) {
	lists := [][]impl.Step{nil, {}, order("+0"), order("-0"), order("+0 -0"), order("-0 +0"), order("+9 +0"), order("-9")}
	eachWrong(func(n impl.Net, on []bool, told string) {
		for _, list := range lists {
			nothingRuns(t, n, on, list, told)
		}
	})
	// Of an order that is not valid no step is done, wherever the fault stands, also behind a step that cannot be done.
	nets := append(goodNets()[:20], impl.Net{}, ringNet(2, impl.MaxLines+1))
	for told, list := range badOrders() {
		for _, n := range nets {
			for _, on := range [][]bool{make([]bool, len(n.Lines)), allBut(n, nil)} {
				nothingRuns(t, n, on, list, told)
			}
		}
	}
}

func TestP100UndoingTwiceIsDoing(t *testing.T) {
	for _, list := range goodOrders() {
		back := impl.OrderBack(list)
		check(t, len(back) == len(list) && impl.OrderValid(back), list, back)
		for k, step := range list {
			other := back[len(list)-1-k]
			check(t, other.At == step.At && other.To != step.To, list, back, k)
		}
		check(t, slices.Equal(impl.OrderBack(back), list), list, back, impl.OrderBack(back))
	}
}

func TestP100OrderBackByHand(t *testing.T) {
	for there, back := range map[string]string{
		"":                                    "",
		"+0":                                  "-0",
		"-9":                                  "+9",
		"+3 -0":                               "+0 -3",
		"+3 +3":                               "-3 -3",
		"-1 -2 +3":                            "-3 +2 +1",
		"+0 +1 +2 +3 +4 +5 +6 +7 +8 +9 -9 -0": "+0 +9 -9 -8 -7 -6 -5 -4 -3 -2 -1 -0",
	} {
		list := impl.OrderBack(order(there))
		check(t, slices.Equal(list, order(back)), there, back, list)
	}
}

func TestP100NothingIsUndoneOfOtherOrders(t *testing.T) {
	for told, list := range badOrders() {
		check(t, impl.OrderBack(list) == nil, told, list, impl.OrderBack(list))
	}
}

// spoilSteps overwrites a result with its spare capacity.
func spoilSteps(list []impl.Step) {
	for k := range list[:cap(list)] {
		list[:cap(list)][k] = impl.Step{At: -7}
	}
}

func TestOrdersShareNoMemory(t *testing.T) {
	n := ringNet(4, 5)
	states := append(state("10110"), state("01101")...)
	on, to := states[:5], states[3:8]
	steps := order("+1 -0 +4 +4 -3 -2")
	bothBefore := func() {
		t.Helper()
		check(t, slices.Equal(states, state("1011001101")), "a state was written to", states)
		check(t, slices.Equal(steps, order("+1 -0 +4 +4 -3 -2")), "an order was written to", steps)
	}
	for many := range len(steps) + 1 {
		list := steps[:many]
		for _, call := range []func() []impl.Step{
			func() []impl.Step { return impl.OrderBack(list) },
			func() []impl.Step { return impl.OrderTo(on, to) },
			func() []impl.Step { return impl.OrderTo(on, on) },
			func() []impl.Step { got, _ := impl.ReadOrder(impl.OrderText(list)); return got },
		} {
			first, second := call(), call()
			want := slices.Clone(second)
			spoilSteps(first)
			check(t, slices.Equal(second, want) && slices.Equal(call(), want), "results share memory", list)
			bothBefore()
		}
		first, done := impl.OrderRun(n, on, list)
		second, _ := impl.OrderRun(n, on, list)
		want := slices.Clone(second)
		spoil(first)
		third, again := impl.OrderRun(n, on, list)
		check(t, slices.Equal(second, want) && slices.Equal(third, want) && done == again, "states share memory", list)
		bothBefore()
		check(t, impl.OrderValid(list), list)
		bothBefore()
	}
}
