package tests

import (
	"math/rand"
	"slices"

	"loop.example/powercontrol/impl"
)

// allStates are the states of so many lines, by ascending StateNumber: the number of each is its index.
func allStates(lines int) [][]bool {
	list := [][]bool{{}}
	for range lines {
		more := [][]bool{}
		for _, last := range []bool{false, true} {
			for _, on := range list {
				more = append(more, append(slices.Clone(on), last))
			}
		}
		list = more
	}
	return list
}

// allBut is a state of a network in which all lines are on but those of a list.
func allBut(n impl.Net, off []int) []bool {
	on := slices.Repeat([]bool{true}, len(n.Lines))
	for _, k := range off {
		on[k] = false
	}
	return on
}

// someState is a state by chance, the same one for the same seed.
func someState(seed int64, lines int) []bool {
	r := rand.New(rand.NewSource(seed))
	on := make([]bool, lines)
	for k := range on {
		on[k] = r.Intn(2) == 1
	}
	return on
}

// netStates are some states of a network: all off, all on, every second line on, and others by chance.
func netStates(n impl.Net) [][]bool {
	lines := len(n.Lines)
	off, all, second := make([]bool, lines), make([]bool, lines), make([]bool, lines)
	for k := range lines {
		all[k] = true
		second[k] = k%2 == 1
	}
	list := [][]bool{off, all, second}
	for seed := range int64(5) {
		list = append(list, someState(seed, lines))
	}
	return list
}

// longStates have more lines than a network can have.
func longStates() [][]bool {
	var list [][]bool
	for _, lines := range []int{impl.MaxLines + 1, impl.MaxLines + 2, 31, 32, 33, 63, 64, 65, 200} {
		list = append(list, make([]bool, lines), slices.Repeat([]bool{true}, lines), someState(int64(lines), lines))
	}
	return list
}

// eachState calls a function for many networks with states: for special shapes with all their states.
func eachState(do func(n impl.Net, on []bool)) {
	for _, n := range []impl.Net{
		{Buses: 1}, {Buses: impl.MaxBuses}, chainNet(), crossedNet(), starNet(), fullNet(), ringNet(3, 6),
		parallelNet(2, 5), parallelNet(impl.MaxBuses, impl.MaxLines), someNet(1), someNet(7),
	} {
		for _, on := range allStates(len(n.Lines)) {
			do(n, on)
		}
	}
	for _, n := range goodNets() {
		for _, on := range netStates(n) {
			do(n, on)
		}
	}
}

// eachWrong calls a function for networks with states of which one or the other is not valid.
func eachWrong(do func(n impl.Net, on []bool, told string)) {
	for _, n := range goodNets() {
		for lines := range impl.MaxLines + 4 {
			if lines != len(n.Lines) {
				do(n, make([]bool, lines), "off, other number of lines")
				do(n, slices.Repeat([]bool{true}, lines), "on, other number of lines")
			}
		}
	}
	for _, on := range longStates() {
		do(fullNet(), on, "long state")
	}
	for name, n := range badNets() {
		for _, on := range netStates(n) {
			do(n, on, name)
		}
		do(n, nil, name)
	}
}
