package tests

import (
	"slices"
	"testing"

	"loop.example/powercontrol/impl"
)

func TestP65OneTruthForEachLine(t *testing.T) {
	for _, n := range goodNets() {
		for lines := range impl.MaxLines + 4 {
			for seed := range int64(3) {
				on := someState(seed, lines)
				check(t, impl.StateValid(n, on) == (lines == len(n.Lines)), n, on)
			}
		}
		for _, on := range netStates(n) {
			check(t, impl.StateValid(n, on), n, on)
			for _, more := range []bool{false, true} {
				check(t, !impl.StateValid(n, append(slices.Clone(on), more)), "one more truth", n, on)
			}
		}
	}
}

func TestP65WithoutLines(t *testing.T) {
	for buses := 1; buses <= impl.MaxBuses; buses++ {
		for _, n := range []impl.Net{{Buses: buses}, {Buses: buses, Lines: []impl.Line{}}} {
			check(t, impl.StateValid(n, nil) && impl.StateValid(n, []bool{}), n)
			check(t, !impl.StateValid(n, []bool{false}), n)
		}
	}
	check(t, !impl.StateValid(fullNet(), nil), "no truths for lines")
}

func TestP65NetsThatAreNotValid(t *testing.T) {
	for name, n := range badNets() {
		for _, on := range netStates(n) {
			check(t, !impl.StateValid(n, on), name, on)
		}
		check(t, !impl.StateValid(n, nil), name)
	}
}

func TestP66NumbersTellStates(t *testing.T) {
	for lines := range impl.MaxLines + 1 {
		for number, on := range allStates(lines) {
			check(t, impl.StateNumber(on) == number, on, impl.StateNumber(on))
			got, ok := impl.StateOf(impl.StateNumber(on), lines)
			check(t, ok && slices.Equal(got, on), on, got, ok)
		}
	}
	check(t, impl.StateNumber(nil) == 0, "nil")
}

func TestP66SumsOfPowers(t *testing.T) {
	power := 1
	for k := range impl.MaxLines {
		on := make([]bool, impl.MaxLines)
		on[k] = true
		check(t, impl.StateNumber(on) == power, k, impl.StateNumber(on))
		check(t, impl.StateNumber(on[:k+1]) == power && impl.StateNumber(on[:k]) == 0, "fewer lines", k)
		power *= 2
	}
}

func TestP66StatesOfTooManyLines(t *testing.T) {
	for _, on := range longStates() {
		check(t, impl.StateNumber(on) == -1, on, impl.StateNumber(on))
	}
}

func TestP67StatesTellNumbers(t *testing.T) {
	most := 1
	for lines := range impl.MaxLines + 1 {
		states := allStates(lines)
		for number := range most {
			on, ok := impl.StateOf(number, lines)
			check(t, ok && slices.Equal(on, states[number]), number, lines, on, ok)
			check(t, impl.StateNumber(on) == number, number, lines, on)
		}
		for number := most; number < most+70; number++ {
			noState(t, number, lines)
		}
		most *= 2
	}
}

func noState(t *testing.T, number int, lines int) {
	t.Helper()
	on, ok := impl.StateOf(number, lines)
	check(t, !ok && on == nil, number, lines, on, ok)
}

func TestP67NoState(t *testing.T) {
	for lines := -3; lines <= impl.MaxLines+3; lines++ {
		for _, number := range append([]int{-1, -2, -1 << 10, 1 << 10, 1 << 32, 1 << 62}, farNumbers...) {
			noState(t, number, lines)
		}
	}
	for _, lines := range append([]int{-1, -2, -64, impl.MaxLines + 1, 12, 62, 63, 64, 65, 1 << 32}, farNumbers...) {
		for _, number := range append([]int{-1, 0, 1, 5, 1023, 1024, 2047}, farNumbers...) {
			noState(t, number, lines)
		}
	}
}

func TestP68OneLineIsSwitched(t *testing.T) {
	for _, n := range goodNets() {
		for _, on := range netStates(n) {
			for line := range n.Lines {
				for _, to := range []bool{false, true} {
					want := slices.Clone(on)
					want[line] = to
					after, ok := impl.SwitchLine(n, on, line, to)
					check(t, ok && slices.Equal(after, want), n, on, line, to, after, ok)
					back, ok := impl.SwitchLine(n, after, line, on[line])
					check(t, ok && slices.Equal(back, on), "switched back", n, on, line, to, back, ok)
				}
			}
		}
	}
}

func TestP68NoSuchLine(t *testing.T) {
	for _, n := range goodNets() {
		for _, on := range netStates(n) {
			for _, line := range append([]int{-1, -2, len(n.Lines), len(n.Lines) + 1, impl.MaxLines, 64}, farNumbers...) {
				for _, to := range []bool{false, true} {
					after, ok := impl.SwitchLine(n, on, line, to)
					check(t, !ok && slices.Equal(after, on), n, on, line, to, after, ok)
				}
			}
		}
	}
}

func TestP68StatesOfOtherNetworks(t *testing.T) {
	refused := func(n impl.Net, on []bool, told string) {
		t.Helper()
		for _, line := range append([]int{-1, 0, 1, len(n.Lines) - 1, len(n.Lines), len(on)}, farNumbers...) {
			for _, to := range []bool{false, true} {
				after, ok := impl.SwitchLine(n, on, line, to)
				check(t, !ok && after == nil, told, n, on, line, to, after, ok)
			}
		}
	}
	for _, n := range goodNets() {
		for lines := range impl.MaxLines + 4 {
			if lines != len(n.Lines) {
				refused(n, someState(int64(lines), lines), "other number of lines")
			}
		}
		for _, on := range longStates() {
			refused(n, on, "long state")
		}
	}
	for name, n := range badNets() {
		for _, on := range netStates(n) {
			refused(n, on, name)
		}
		refused(n, nil, name)
	}
}

// differ are the indices at which two states of as many lines differ.
func differ(a []bool, b []bool) []int {
	var list []int
	for k := range a {
		if a[k] && !b[k] || !a[k] && b[k] {
			list = append(list, k)
		}
	}
	return list
}

func changesLead(t *testing.T, a []bool, b []bool) {
	t.Helper()
	list := impl.Changes(a, b)
	check(t, slices.Equal(list, differ(a, b)), a, b, list)
	check(t, slices.Equal(list, impl.Changes(b, a)), "exchanged", a, b)
	after, ok := impl.ChangeAll(a, list)
	check(t, ok && slices.Equal(after, b), a, b, list, after, ok)
}

func TestP69ChangesLead(t *testing.T) {
	for lines := range 7 {
		states := allStates(lines)
		for _, a := range states {
			for _, b := range states {
				changesLead(t, a, b)
			}
		}
	}
	for seed := range int64(300) {
		lines := int(seed) % (impl.MaxLines + 1)
		changesLead(t, someState(seed, lines), someState(seed+1000, lines))
	}
	changesLead(t, nil, nil)
	changesLead(t, nil, []bool{})
}

// The chapter sets no bound to the lines of two states that are compared.
func TestP69LongStates(t *testing.T) {
	for _, a := range longStates() {
		for _, b := range longStates() {
			if len(a) == len(b) {
				changesLead(t, a, b)
			}
		}
	}
}

func TestP69OtherNumbersOfLines(t *testing.T) {
	var list [][]bool
	for lines := range impl.MaxLines + 1 {
		list = append(list, make([]bool, lines), slices.Repeat([]bool{true}, lines))
	}
	list = append(list, longStates()...)
	for _, a := range list {
		for _, b := range list {
			if len(a) != len(b) {
				check(t, impl.Changes(a, b) == nil, a, b, impl.Changes(a, b))
			}
		}
	}
}

// someLines is a list of lines by chance, many of them several times.
func someLines(seed int64, lines int, many int) []int {
	var list []int
	for k, up := range someState(seed, many) {
		step := 1
		if up {
			step = 3
		}
		list = append(list, (k*step+int(seed))%lines)
	}
	return list
}

func TestP70ChangedTwice(t *testing.T) {
	for seed := range int64(400) {
		lines := 1 + int(seed)%(impl.MaxLines+3)
		on := someState(seed, lines)
		list := someLines(seed, lines, int(seed)%40)
		want := slices.Clone(on)
		for k := range want {
			times := 0
			for _, line := range list {
				if line == k {
					times++
				}
			}
			want[k] = on[k] == (times%2 == 0)
		}
		after, ok := impl.ChangeAll(on, list)
		check(t, ok && slices.Equal(after, want), on, list, after, ok)
		back, ok := impl.ChangeAll(after, list)
		check(t, ok && slices.Equal(back, on), "twice", on, list, back, ok)
	}
}

func TestP70SeveralTimes(t *testing.T) {
	on := []bool{true, false, true}
	for many := range 5 {
		list := slices.Repeat([]int{2}, many)
		after, ok := impl.ChangeAll(on, list)
		check(t, ok && slices.Equal(after, []bool{true, false, many%2 == 0}), many, after, ok)
	}
	after, ok := impl.ChangeAll(on, []int{2, 0, 1, 0, 2, 0})
	check(t, ok && slices.Equal(after, []bool{false, true, true}), after, ok)
}

func TestP70NoChanges(t *testing.T) {
	states := append(longStates(), nil, []bool{}, []bool{true}, []bool{false, true})
	for _, on := range states {
		for _, list := range [][]int{nil, {}} {
			after, ok := impl.ChangeAll(on, list)
			check(t, ok && slices.Equal(after, on), on, after, ok)
		}
	}
}

func TestP70LinesThatAreNone(t *testing.T) {
	for lines := range impl.MaxLines + 3 {
		on := someState(int64(lines), lines)
		for _, line := range append([]int{-1, -2, lines, lines + 1, 64}, farNumbers...) {
			for _, list := range [][]int{{line}, {line, line}, {line, 0}, {0, line}, {lines - 1, line}, {0, lines - 1, line, 0}} {
				after, ok := impl.ChangeAll(on, list)
				check(t, !ok && after == nil, on, list, after, ok)
			}
		}
	}
}

// spoil overwrites a result with its spare capacity.
func spoil(on []bool) {
	for k := range on[:cap(on)] {
		on[:cap(on)][k] = !on[:cap(on)][k]
	}
}

func TestSwitchesShareNoMemory(t *testing.T) {
	n := ringNet(4, 5)
	memory := []bool{true, false, true, true, false, true, false, true}
	before := slices.Clone(memory)
	on := memory[:5]
	lines := []int{3, 1, 3, 0, 77}
	for _, call := range []func() []bool{
		func() []bool { after, _ := impl.SwitchLine(n, on, 1, true); return after },
		func() []bool { after, _ := impl.SwitchLine(n, on, 0, true); return after },
		func() []bool { after, _ := impl.SwitchLine(n, on, 5, true); return after },
		func() []bool { after, _ := impl.ChangeAll(on, lines[:4]); return after },
		func() []bool { after, _ := impl.ChangeAll(on, nil); return after },
		func() []bool { after, _ := impl.ChangeAll(on[:0], nil); return after },
		func() []bool { after, _ := impl.ChangeAll(on, lines); return after },
		func() []bool { after, _ := impl.StateOf(13, 5); return after },
	} {
		first, second := call(), call()
		want := slices.Clone(second)
		spoil(first)
		check(t, slices.Equal(second, want), "results share memory")
		check(t, slices.Equal(call(), want), "state is kept")
		check(t, slices.Equal(memory, before), "an argument was written to", memory)
	}
	impl.StateValid(n, on)
	impl.StateNumber(on)
	impl.Changes(on, memory[3:])
	check(t, slices.Equal(memory, before), "an argument was written to", memory)
	check(t, slices.Equal(lines, []int{3, 1, 3, 0, 77}), "a list was written to", lines)
}
