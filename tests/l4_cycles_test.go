package tests

import (
	"slices"
	"testing"

	"loop.example/powercontrol/impl"
)

// without is a state with one line off.
func without(on []bool, line int) []bool {
	off := slices.Clone(on)
	off[line] = false
	return off
}

// only is a state of so many lines in which those of a list are on.
func only(list []int, lines int) []bool {
	on := make([]bool, lines)
	for _, k := range list {
		on[k] = true
	}
	return on
}

// linesThatAreOn are the lines of a state that are on, in ascending order.
func linesThatAreOn(on []bool) []int {
	return differ(on, make([]bool, len(on)))
}

// cyclesAndBridges are the lines of both kinds, found as the document defines them: by the ways that are left without each line.
func cyclesAndBridges(n impl.Net, on []bool) (cycles []int, bridges []int) {
	for _, k := range linesThatAreOn(on) {
		if l := n.Lines[k]; joined(n, without(on, k))[l.A][l.B] {
			cycles = append(cycles, k)
		} else {
			bridges = append(bridges, k)
		}
	}
	return cycles, bridges
}

// islandsIn counts the islands of a state.
func islandsIn(n impl.Net, on []bool) int {
	islands := 0
	ways := joined(n, on)
	for bus := range ways {
		if islandFrom(ways, bus)[0] == bus {
			islands++
		}
	}
	return islands
}

// knot is a network with the lines on that are told, and the lines of cycles, the bridges and the spanning lines that it has then.
type knot struct {
	net      string
	off      []int
	cycles   []int
	bridges  []int
	spanning []int
}

// knots are shapes in which a search can go wrong: parallel lines, cycles that share a bus or a line, and bridges before, between and behind cycles.
func knots() map[string]knot {
	return map[string]knot{
		"no lines":                      {net: "3"},
		"one line":                      {net: "2 1-0:5", bridges: []int{0}, spanning: []int{0}},
		"one line off":                  {net: "2 1-0:5", off: []int{0}},
		"two parallel lines":            {net: "2 0-1:5 1-0:5", cycles: []int{0, 1}, spanning: []int{0}},
		"first of two parallel off":     {net: "2 0-1:5 1-0:5", off: []int{0}, bridges: []int{1}, spanning: []int{1}},
		"second of two parallel off":    {net: "2 0-1:5 0-1:5", off: []int{1}, bridges: []int{0}, spanning: []int{0}},
		"three parallel lines":          {net: "3 2-1:5 1-2:5 2-1:5", cycles: []int{0, 1, 2}, spanning: []int{0}},
		"parallel lines in a chain":     {net: "4 0-1:5 1-2:5 2-1:5 2-3:5", cycles: []int{1, 2}, bridges: []int{0, 3}, spanning: []int{0, 1, 3}},
		"parallel lines at the far end": {net: "4 2-3:5 0-1:5 1-2:5 3-2:5", cycles: []int{0, 3}, bridges: []int{1, 2}, spanning: []int{0, 1, 2}},
		"ring":                          {net: "3 0-1:5 1-2:5 2-0:5", cycles: []int{0, 1, 2}, spanning: []int{0, 1}},
		"ring of all buses":             {net: "8 7-0:5 6-7:5 5-6:5 4-5:5 3-4:5 2-3:5 1-2:5 0-1:5", cycles: []int{0, 1, 2, 3, 4, 5, 6, 7}, spanning: []int{0, 1, 2, 3, 4, 5, 6}},
		"open ring":                     {net: "4 0-1:5 1-2:5 2-3:5 3-0:5", off: []int{1}, bridges: []int{0, 2, 3}, spanning: []int{0, 2, 3}},
		"ring with a way to it":         {net: "5 0-1:5 1-2:5 2-3:5 3-4:5 4-2:5", cycles: []int{2, 3, 4}, bridges: []int{0, 1}, spanning: []int{0, 1, 2, 3}},
		"ring with a way from it":       {net: "5 0-1:5 1-2:5 2-0:5 2-3:5 3-4:5", cycles: []int{0, 1, 2}, bridges: []int{3, 4}, spanning: []int{0, 1, 3, 4}},
		"rings joined by a line":        {net: "6 2-3:5 0-1:5 1-2:5 2-0:5 3-4:5 4-5:5 5-3:5", cycles: []int{1, 2, 3, 4, 5, 6}, bridges: []int{0}, spanning: []int{0, 1, 2, 4, 5}},
		"rings that share a bus":        {net: "5 0-1:5 1-2:5 2-0:5 2-3:5 3-4:5 4-2:5", cycles: []int{0, 1, 2, 3, 4, 5}, spanning: []int{0, 1, 3, 4}},
		"rings that share a line":       {net: "4 0-1:5 1-2:5 2-3:5 3-0:5 0-2:5", cycles: []int{0, 1, 2, 3, 4}, spanning: []int{0, 1, 2}},
		"rings of two islands":          {net: "7 4-5:5 0-1:5 5-6:5 1-2:5 6-4:5 2-0:5", cycles: []int{0, 1, 2, 3, 4, 5}, spanning: []int{0, 1, 2, 3}},
		"ring and chain of two islands": {net: "7 0-1:5 3-4:5 1-2:5 4-5:5 5-6:5 6-4:5", cycles: []int{3, 4, 5}, bridges: []int{0, 1, 2}, spanning: []int{0, 1, 2, 3, 4}},
	}
}

// eachKnot calls a function for the networks and states of the knots.
func eachKnot(t *testing.T, do func(name string, k knot, n impl.Net, on []bool)) {
	t.Helper()
	for name, k := range knots() {
		n, ok := impl.ReadNet(k.net)
		check(t, ok, name, k.net)
		on := allBut(n, k.off)
		do(name, k, n, on)
	}
}

func TestP2SpanningLinesHoldAllIslands(t *testing.T) {
	eachState(func(n impl.Net, on []bool) {
		numbers := impl.IslandNumbers(n, on)
		list := impl.SpanningLines(n, on)
		alone := only(list, len(on))
		check(t, slices.Equal(impl.IslandNumbers(n, alone), numbers), "islands", n, on, list)
		check(t, !impl.HasCycle(n, alone), "cycle", n, on, list)
		check(t, len(list) == n.Buses-len(impl.IslandsOf(n, on)), "number", n, on, list)
		check(t, len(list) == n.Buses-islandsIn(n, on), "number", n, on, list)
		check(t, slices.Equal(impl.SpanningLines(n, alone), list), "of themselves", n, on, list)
	})
}

func TestP2FirstLines(t *testing.T) {
	eachState(func(n impl.Net, on []bool) {
		taken := make([]bool, len(on))
		for _, k := range linesThatAreOn(on) {
			l := n.Lines[k]
			taken[k] = !joined(n, taken)[l.A][l.B]
		}
		list := impl.SpanningLines(n, on)
		check(t, slices.Equal(list, linesThatAreOn(taken)), n, on, list)
	})
}

func TestP2Shapes(t *testing.T) {
	eachKnot(t, func(name string, k knot, n impl.Net, on []bool) {
		list := impl.SpanningLines(n, on)
		check(t, slices.Equal(list, k.spanning), name, list)
	})
}

func TestP2ParallelLines(t *testing.T) {
	for lines := range impl.MaxLines + 1 {
		n := parallelNet(3, lines)
		for _, on := range allStates(lines) {
			first := linesThatAreOn(on)
			list := impl.SpanningLines(n, on)
			check(t, slices.Equal(list, first[:min(1, len(first))]), n, on, list)
		}
	}
}

func TestP2ArgumentsThatAreNotValid(t *testing.T) {
	eachWrong(func(n impl.Net, on []bool, told string) {
		check(t, impl.SpanningLines(n, on) == nil, told, n, on)
	})
}

func TestP74LinesOfCyclesCanBeLost(t *testing.T) {
	eachState(func(n impl.Net, on []bool) {
		numbers := impl.IslandNumbers(n, on)
		for _, k := range impl.CycleLines(n, on) {
			check(t, on[k], "off", n, on, k)
			check(t, slices.Equal(impl.IslandNumbers(n, without(on, k)), numbers), n, on, k)
		}
	})
}

func TestP74CycleLines(t *testing.T) {
	eachState(func(n impl.Net, on []bool) {
		want, _ := cyclesAndBridges(n, on)
		list := impl.CycleLines(n, on)
		check(t, slices.Equal(list, want), n, on, list, want)
	})
	eachKnot(t, func(name string, k knot, n impl.Net, on []bool) {
		list := impl.CycleLines(n, on)
		check(t, slices.Equal(list, k.cycles), name, list)
	})
}

func TestP74ParallelLines(t *testing.T) {
	for lines := range impl.MaxLines + 1 {
		n := parallelNet(2, lines)
		for _, on := range allStates(lines) {
			want := linesThatAreOn(on)
			if len(want) == 1 {
				want = nil
			}
			list := impl.CycleLines(n, on)
			check(t, slices.Equal(list, want), n, on, list)
			check(t, impl.HasCycle(n, on) == (len(want) > 0), n, on)
		}
	}
}

func TestP74ArgumentsThatAreNotValid(t *testing.T) {
	eachWrong(func(n impl.Net, on []bool, told string) {
		check(t, impl.CycleLines(n, on) == nil, told, n, on)
	})
}

func TestP75BridgesCannotBeLost(t *testing.T) {
	eachState(func(n impl.Net, on []bool) {
		islands := len(impl.IslandsOf(n, on))
		bridges := impl.BridgeLines(n, on)
		for _, k := range bridges {
			check(t, on[k], "off", n, on, k)
			check(t, len(impl.IslandsOf(n, without(on, k))) == islands+1, n, on, k)
		}
		both := append(impl.CycleLines(n, on), bridges...)
		slices.Sort(both)
		check(t, slices.Equal(both, linesThatAreOn(on)), "together", n, on, both)
	})
}

func TestP75BridgeLines(t *testing.T) {
	eachState(func(n impl.Net, on []bool) {
		_, want := cyclesAndBridges(n, on)
		list := impl.BridgeLines(n, on)
		check(t, slices.Equal(list, want), n, on, list, want)
	})
	eachKnot(t, func(name string, k knot, n impl.Net, on []bool) {
		list := impl.BridgeLines(n, on)
		check(t, slices.Equal(list, k.bridges), name, list)
	})
}

func TestP75ParallelLines(t *testing.T) {
	for lines := range impl.MaxLines + 1 {
		n := parallelNet(impl.MaxBuses, lines)
		for _, on := range allStates(lines) {
			want := linesThatAreOn(on)
			if len(want) > 1 {
				want = nil
			}
			list := impl.BridgeLines(n, on)
			check(t, slices.Equal(list, want), n, on, list)
		}
	}
}

func TestP75ArgumentsThatAreNotValid(t *testing.T) {
	eachWrong(func(n impl.Net, on []bool, told string) {
		check(t, impl.BridgeLines(n, on) == nil, told, n, on)
	})
}

func TestP76LinesAreCountedByIslands(t *testing.T) {
	eachState(func(n impl.Net, on []bool) {
		more := len(linesThatAreOn(on)) > n.Buses-islandsIn(n, on)
		check(t, impl.HasCycle(n, on) == more, n, on)
		check(t, len(impl.IslandsOf(n, on)) == islandsIn(n, on), "islands", n, on)
	})
}

func TestP76Shapes(t *testing.T) {
	eachKnot(t, func(name string, k knot, n impl.Net, on []bool) {
		check(t, impl.HasCycle(n, on) == (len(k.cycles) > 0), name)
	})
	for _, n := range []impl.Net{chainNet(), crossedNet(), starNet()} {
		for _, on := range allStates(len(n.Lines)) {
			check(t, !impl.HasCycle(n, on), "no cycle", n, on)
		}
	}
	for lines := range impl.MaxLines + 1 {
		n := ringNet(impl.MaxBuses, lines)
		check(t, impl.HasCycle(n, slices.Repeat([]bool{true}, lines)) == (lines >= impl.MaxBuses), "ring", lines)
	}
}

func TestP76ArgumentsThatAreNotValid(t *testing.T) {
	eachWrong(func(n impl.Net, on []bool, told string) {
		check(t, !impl.HasCycle(n, on), told, n, on)
	})
}

func TestCyclesShareNoMemory(t *testing.T) {
	whole, _ := impl.ReadNet("6 0-1:9 1-2:8 2-0:7 2-3:6 3-4:5 3-4:5 4-5:5")
	lines := whole.Lines
	n := impl.Net{Buses: 6, Lines: lines[:5]}
	memory := []bool{true, true, true, true, true, false, true, false}
	on := memory[:5]
	linesBefore, memoryBefore := slices.Clone(lines), slices.Clone(memory)
	for _, call := range []func() []int{
		func() []int { return impl.CycleLines(n, on) },
		func() []int { return impl.BridgeLines(n, on) },
		func() []int { return impl.SpanningLines(n, on) },
	} {
		first, second := call(), call()
		want := slices.Clone(second)
		check(t, len(want) > 0, "nothing to share")
		spoilNumbers(first)
		check(t, slices.Equal(second, want) && slices.Equal(call(), want), "results share memory", want)
	}
	impl.HasCycle(n, on)
	check(t, slices.Equal(lines, linesBefore) && slices.Equal(memory, memoryBefore), "an argument was written to")
}
