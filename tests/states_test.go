package tests

import (
	"math/rand"
	"slices"

	"loop.example/powercontrol/impl"
)

// allStates are the states of so many lines, by ascending StateNumber: the number of each is its index.
func allStates(lines int) [][]bool {
	list := [][]bool{{}}
	for range lines {
		more := [][]bool{}
		for _, last := range []bool{false, true} {
			for _, on := range list {
				more = append(more, append(slices.Clone(on), last))
			}
		}
		list = more
	}
	return list
}

// someState is a state by chance, the same one for the same seed.
func someState(seed int64, lines int) []bool {
	r := rand.New(rand.NewSource(seed))
	on := make([]bool, lines)
	for k := range on {
		on[k] = r.Intn(2) == 1
	}
	return on
}

// netStates are some states of a network: all off, all on, every second line on, and others by chance.
func netStates(n impl.Net) [][]bool {
	lines := len(n.Lines)
	off, all, second := make([]bool, lines), make([]bool, lines), make([]bool, lines)
	for k := range lines {
		all[k] = true
		second[k] = k%2 == 1
	}
	list := [][]bool{off, all, second}
	for seed := range int64(5) {
		list = append(list, someState(seed, lines))
	}
	return list
}

// longStates have more lines than a network can have.
func longStates() [][]bool {
	var list [][]bool
	for _, lines := range []int{impl.MaxLines + 1, impl.MaxLines + 2, 31, 32, 33, 63, 64, 65, 200} {
		list = append(list, make([]bool, lines), slices.Repeat([]bool{true}, lines), someState(int64(lines), lines))
	}
	return list
}
