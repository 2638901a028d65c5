package tests

import (
	"slices"
	"testing"

	"loop.example/powercontrol/impl"
)

// joined tells, for each two buses of a valid network, whether lines that are on lead from the one to the other: found in another way than the program's, by all the buses that a way may lead over.
func joined(n impl.Net, on []bool) [][]bool {
	ways := make([][]bool, n.Buses)
	for bus := range ways {
		ways[bus] = make([]bool, n.Buses)
		ways[bus][bus] = true
	}
	for k, l := range n.Lines {
		if on[k] {
			ways[l.A][l.B], ways[l.B][l.A] = true, true
		}
	}
	for over := range ways {
		for a := range ways {
			for b := range ways {
				ways[a][b] = ways[a][b] || ways[a][over] && ways[over][b]
			}
		}
	}
	return ways
}

// islandFrom are the buses that are joined to a bus, in ascending order.
func islandFrom(ways [][]bool, bus int) []int {
	var list []int
	for other, leads := range ways[bus] {
		if leads {
			list = append(list, other)
		}
	}
	return list
}

func TestP1SwitchJoinsTwoIslandsOrNone(t *testing.T) {
	eachState(func(n impl.Net, on []bool) {
		for k, l := range n.Lines {
			with, without := slices.Clone(on), slices.Clone(on)
			with[k], without[k] = true, false
			fewer := len(impl.IslandsOf(n, without)) - len(impl.IslandsOf(n, with))
			apart := !impl.SameIsland(n, without, l.A, l.B)
			check(t, apart == !joined(n, without)[l.A][l.B], "ends", n, without, k)
			check(t, fewer == 0 && !apart || fewer == 1 && apart, n, on, k, fewer, apart)
		}
	})
}

func TestP1FromAllOffToAllOn(t *testing.T) {
	for _, n := range []impl.Net{chainNet(), crossedNet(), starNet(), ringNet(impl.MaxBuses, impl.MaxBuses-1)} {
		on := make([]bool, len(n.Lines))
		check(t, len(impl.IslandsOf(n, on)) == impl.MaxBuses, "all off", n)
		for k := range on {
			on[k] = true
			islands := impl.IslandsOf(n, on)
			check(t, len(islands) == impl.MaxBuses-k-1, n, on, islands)
		}
	}
}

// Only the first of several parallel lines joins anything.
func TestP1ParallelLines(t *testing.T) {
	for lines := 1; lines <= impl.MaxLines; lines++ {
		n := parallelNet(4, lines)
		for number, on := range allStates(lines) {
			want := 3
			if number == 0 {
				want = 4
			}
			islands := impl.IslandsOf(n, on)
			check(t, len(islands) == want, n, on, islands)
			check(t, impl.SameIsland(n, on, 0, 1) == (number > 0), n, on)
		}
	}
}

func TestP71IslandsAreClosed(t *testing.T) {
	eachState(func(n impl.Net, on []bool) {
		for bus := range n.Buses {
			island := impl.Reached(n, on, bus)
			check(t, slices.Contains(island, bus), "without its bus", n, on, bus, island)
			for _, other := range island {
				check(t, slices.Equal(impl.Reached(n, on, other), island), n, on, bus, other)
			}
			for k, l := range n.Lines {
				both := slices.Contains(island, l.A) == slices.Contains(island, l.B)
				check(t, both || !on[k], "not closed", n, on, bus, k)
			}
		}
	})
}

func TestP71Reached(t *testing.T) {
	eachState(func(n impl.Net, on []bool) {
		ways := joined(n, on)
		for bus := range n.Buses {
			island := impl.Reached(n, on, bus)
			check(t, slices.Equal(island, islandFrom(ways, bus)), n, on, bus, island)
		}
	})
}

func TestP71NoSuchBus(t *testing.T) {
	for _, n := range goodNets() {
		for _, on := range netStates(n) {
			for _, bus := range append([]int{-1, -2, n.Buses, n.Buses + 1, impl.MaxBuses, 64}, farNumbers...) {
				check(t, impl.Reached(n, on, bus) == nil, n, on, bus)
			}
		}
	}
}

func TestP71ArgumentsThatAreNotValid(t *testing.T) {
	eachWrong(func(n impl.Net, on []bool, told string) {
		for _, bus := range append([]int{-1, 0, 1, 2, 7, 8, n.Buses - 1, n.Buses}, farNumbers...) {
			check(t, impl.Reached(n, on, bus) == nil, told, n, on, bus)
		}
	})
}

func TestP72EveryBusIsInOneIsland(t *testing.T) {
	eachState(func(n impl.Net, on []bool) {
		numbers := impl.IslandNumbers(n, on)
		check(t, len(numbers) == n.Buses, "numbers", n, on, numbers)
		times := make([]int, n.Buses)
		for _, island := range impl.IslandsOf(n, on) {
			check(t, len(island) > 0 && slices.IsSorted(island), "order", n, on, island)
			for _, bus := range island {
				times[bus]++
				check(t, numbers[bus] == island[0], "number", n, on, bus, numbers, island)
			}
		}
		check(t, slices.Equal(times, slices.Repeat([]int{1}, n.Buses)), "times", n, on, times)
	})
}

func TestP72Islands(t *testing.T) {
	eachState(func(n impl.Net, on []bool) {
		ways := joined(n, on)
		numbers := impl.IslandNumbers(n, on)
		check(t, len(numbers) == n.Buses, "numbers", n, on, numbers)
		want := [][]int{}
		for bus := range n.Buses {
			island := islandFrom(ways, bus)
			check(t, numbers[bus] == island[0], n, on, bus, numbers)
			if bus == island[0] {
				want = append(want, island)
			}
		}
		got := impl.IslandsOf(n, on)
		check(t, slices.EqualFunc(got, want, slices.Equal), n, on, got, want)
	})
}

func TestP72IslandsOfOneBus(t *testing.T) {
	for buses := 1; buses <= impl.MaxBuses; buses++ {
		for _, n := range []impl.Net{{Buses: buses}, {Buses: buses, Lines: []impl.Line{}}, parallelNet(max(buses, 2), 5)} {
			off := make([]bool, len(n.Lines))
			numbers, islands := impl.IslandNumbers(n, off), impl.IslandsOf(n, off)
			check(t, len(numbers) == n.Buses && len(islands) == n.Buses, n, numbers, islands)
			for bus := range n.Buses {
				alone := []int{bus}
				check(t, numbers[bus] == bus && slices.Equal(islands[bus], alone), n, bus, numbers, islands)
				check(t, slices.Equal(impl.Reached(n, off, bus), alone), n, bus)
			}
		}
	}
}

func TestP72ArgumentsThatAreNotValid(t *testing.T) {
	eachWrong(func(n impl.Net, on []bool, told string) {
		check(t, impl.IslandNumbers(n, on) == nil, told, n, on)
		check(t, impl.IslandsOf(n, on) == nil, told, n, on)
	})
}

func TestP73NoDirection(t *testing.T) {
	eachState(func(n impl.Net, on []bool) {
		ways := joined(n, on)
		numbers := impl.IslandNumbers(n, on)
		check(t, len(numbers) == n.Buses, "numbers", n, on, numbers)
		for a := range n.Buses {
			check(t, impl.SameIsland(n, on, a, a), "itself", n, on, a)
			for b := range n.Buses {
				same := impl.SameIsland(n, on, a, b)
				check(t, same == ways[a][b], n, on, a, b)
				check(t, same == impl.SameIsland(n, on, b, a), "exchanged", n, on, a, b)
				check(t, same == (numbers[a] == numbers[b]), "numbers", n, on, a, b, numbers)
			}
		}
	})
}

func TestP73NoSuchBus(t *testing.T) {
	for _, n := range goodNets() {
		for _, on := range netStates(n) {
			for _, none := range append([]int{-1, -2, n.Buses, n.Buses + 1, impl.MaxBuses, 64}, farNumbers...) {
				check(t, !impl.SameIsland(n, on, none, none), "itself", n, on, none)
				for bus := range n.Buses {
					check(t, !impl.SameIsland(n, on, bus, none), n, on, bus, none)
					check(t, !impl.SameIsland(n, on, none, bus), "exchanged", n, on, none, bus)
				}
			}
		}
	}
}

func TestP73ArgumentsThatAreNotValid(t *testing.T) {
	eachWrong(func(n impl.Net, on []bool, told string) {
		buses := append([]int{-1, 0, 1, 7, 8, n.Buses - 1, n.Buses}, farNumbers...)
		for _, a := range buses {
			for _, b := range buses {
				check(t, !impl.SameIsland(n, on, a, b), told, n, on, a, b)
			}
		}
	})
}

// spoilNumbers overwrites a result with its spare capacity.
func spoilNumbers(list []int) {
	for k := range list[:cap(list)] {
		list[:cap(list)][k] = -7
	}
}

func TestIslandsShareNoMemory(t *testing.T) {
	lines := slices.Clone(ringNet(6, 7).Lines)
	n := impl.Net{Buses: 6, Lines: lines[:5]}
	memory := []bool{true, false, true, true, false, true, true}
	on := memory[:5]
	linesBefore, memoryBefore := slices.Clone(lines), slices.Clone(memory)
	for _, call := range []func() []int{
		func() []int { return impl.Reached(n, on, 3) },
		func() []int { return impl.Reached(n, on, 5) },
		func() []int { return impl.IslandNumbers(n, on) },
	} {
		first, second := call(), call()
		want := slices.Clone(second)
		spoilNumbers(first)
		check(t, slices.Equal(second, want) && slices.Equal(call(), want), "results share memory", want)
	}
	impl.SameIsland(n, on, 0, 5)
	want := [][]int{{0, 1}, {2, 3, 4}, {5}}
	for at := range want {
		islands, other := impl.IslandsOf(n, on), impl.IslandsOf(n, on)
		spoilNumbers(islands[at])
		islands[at] = want[at]
		check(t, slices.EqualFunc(islands, want, slices.Equal), "islands share memory", at, islands)
		check(t, slices.EqualFunc(other, want, slices.Equal), "results share memory", at, other)
	}
	check(t, slices.Equal(lines, linesBefore) && slices.Equal(memory, memoryBefore), "an argument was written to")
}
