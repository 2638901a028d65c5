package tests

import (
	"slices"
	"testing"

	"loop.example/powercontrol/impl"
)

// islandTotals are, for each bus, what all buses that are joined to it give at most and want.
func islandTotals(n impl.Net, on []bool, buses []impl.Bus) []impl.Bus {
	sums := make([]impl.Bus, n.Buses)
	ways := joined(n, on)
	for bus := range sums {
		for _, other := range islandFrom(ways, bus) {
			sums[bus].Feed += buses[other].Feed
			sums[bus].Load += buses[other].Load
		}
	}
	return sums
}

func TestP3SwitchingOnTakesNoLife(t *testing.T) {
	eachLife(func(n impl.Net, on []bool, buses []impl.Bus) {
		for k := range on {
			with := slices.Clone(on)
			with[k] = true
			more := impl.AliveBuses(n, with, buses)
			for _, bus := range impl.AliveBuses(n, without(on, k), buses) {
				check(t, slices.Contains(more, bus), n, on, buses, k, bus)
			}
		}
	})
}

func TestP3IslandsAreAliveTogether(t *testing.T) {
	eachLife(func(n impl.Net, on []bool, buses []impl.Bus) {
		alive := impl.AliveBuses(n, on, buses)
		for _, island := range impl.IslandsOf(n, on) {
			first := slices.Contains(alive, island[0])
			for _, bus := range island {
				check(t, slices.Contains(alive, bus) == first, n, on, buses, bus, alive)
			}
		}
	})
}

func TestP3AliveBuses(t *testing.T) {
	eachLife(func(n impl.Net, on []bool, buses []impl.Bus) {
		var want []int
		for bus, sum := range islandTotals(n, on, buses) {
			if sum.Feed > 0 {
				want = append(want, bus)
			}
		}
		alive := impl.AliveBuses(n, on, buses)
		check(t, slices.Equal(alive, want), n, on, buses, alive, want)
	})
}

// A feed of 1 is enough for life, whatever is wanted; a feed of 0 gives none.
func TestP3TheLeastFeed(t *testing.T) {
	n := chainNet()
	for number, on := range allStates(len(n.Lines)) {
		ways := joined(n, on)
		buses := slices.Repeat([]impl.Bus{{Load: impl.MaxPower}}, n.Buses)
		check(t, len(impl.AliveBuses(n, on, buses)) == 0, "without feeds", on)
		at := number % n.Buses
		buses[at].Feed = 1
		alive := impl.AliveBuses(n, on, buses)
		check(t, slices.Equal(alive, islandFrom(ways, at)), on, at, alive)
	}
}

func TestP3ArgumentsThatAreNotValid(t *testing.T) {
	eachWrongLife(func(n impl.Net, on []bool, buses []impl.Bus, told string) {
		check(t, impl.AliveBuses(n, on, buses) == nil, told, n, on, buses)
	})
}

func TestP77OneBusForEachBus(t *testing.T) {
	for _, n := range goodNets() {
		for _, buses := range netBuses(n) {
			check(t, impl.BusesValid(n, buses), n, buses)
			check(t, !impl.BusesValid(n, buses[1:]), "one less", n, buses)
			for _, more := range []impl.Bus{{}, {Feed: 1, Load: 1}, {Feed: -1}, buses[0]} {
				check(t, !impl.BusesValid(n, append(slices.Clone(buses), more)), "one more", n, buses)
			}
		}
		for told, buses := range badBuses(n) {
			check(t, !impl.BusesValid(n, buses), told, n, buses)
		}
	}
}

func TestP77Bounds(t *testing.T) {
	n := fullNet()
	for at := range n.Buses {
		for power := -2; power <= impl.MaxPower+2; power++ {
			want := 0 <= power && power <= 999
			feed, load := make([]impl.Bus, n.Buses), make([]impl.Bus, n.Buses)
			feed[at].Feed, load[at].Load = power, power
			check(t, impl.BusesValid(n, feed) == want, "Feed", at, power)
			check(t, impl.BusesValid(n, load) == want, "Load", at, power)
		}
	}
}

func TestP77NetsThatAreNotValid(t *testing.T) {
	for name, n := range badNets() {
		for buses := range impl.MaxBuses + 3 {
			check(t, !impl.BusesValid(n, make([]impl.Bus, buses)), name, buses)
			check(t, !impl.BusesValid(n, someBuses(2, buses)), name, buses)
		}
		check(t, !impl.BusesValid(n, nil), name)
	}
}

// sumsAreTogether checks that each bus of an island has the same sum, that it is the wanted one of each bus, and that the sums of all islands are together that of the whole.
func sumsAreTogether(t *testing.T, n impl.Net, on []bool, sums []int, want []int, whole int) {
	t.Helper()
	check(t, slices.Equal(sums, want), n, on, sums, want)
	for _, island := range impl.IslandsOf(n, on) {
		for _, bus := range island {
			check(t, sums[bus] == sums[island[0]], "one island", n, on, bus, sums)
		}
		whole -= sums[island[0]]
	}
	check(t, whole == 0, "together", n, on, sums, whole)
}

func TestP78IslandsHaveTogetherAllFeeds(t *testing.T) {
	eachLife(func(n impl.Net, on []bool, buses []impl.Bus) {
		var sums, want []int
		for bus, sum := range islandTotals(n, on, buses) {
			sums = append(sums, impl.IslandFeed(n, on, buses, bus))
			want = append(want, sum.Feed)
		}
		sumsAreTogether(t, n, on, sums, want, total(buses).Feed)
	})
}

func TestP79IslandsHaveTogetherAllLoads(t *testing.T) {
	eachLife(func(n impl.Net, on []bool, buses []impl.Bus) {
		var sums, want []int
		for bus, sum := range islandTotals(n, on, buses) {
			sums = append(sums, impl.IslandLoad(n, on, buses, bus))
			want = append(want, sum.Load)
		}
		sumsAreTogether(t, n, on, sums, want, total(buses).Load)
	})
}

// sumsAreRefused checks that no sum is told for any of these buses.
func sumsAreRefused(t *testing.T, n impl.Net, on []bool, buses []impl.Bus, list []int, told string) {
	t.Helper()
	for _, bus := range list {
		check(t, impl.IslandFeed(n, on, buses, bus) == -1, "feed", told, n, on, buses, bus)
		check(t, impl.IslandLoad(n, on, buses, bus) == -1, "load", told, n, on, buses, bus)
	}
}

func TestP78AndP79NoSuchBus(t *testing.T) {
	for _, n := range goodNets() {
		for _, on := range netStates(n) {
			list := append([]int{-1, -2, n.Buses, n.Buses + 1, impl.MaxBuses, 64}, farNumbers...)
			sumsAreRefused(t, n, on, someBuses(5, n.Buses), list, "no such bus")
		}
	}
}

func TestP78AndP79ArgumentsThatAreNotValid(t *testing.T) {
	eachWrongLife(func(n impl.Net, on []bool, buses []impl.Bus, told string) {
		sumsAreRefused(t, n, on, buses, []int{-1, 0, 1, 7, 8, n.Buses - 1, n.Buses}, told)
	})
}

func TestP80IslandsThatHaveEnoughAreServed(t *testing.T) {
	eachLife(func(n impl.Net, on []bool, buses []impl.Bus) {
		sum := 0
		for _, island := range impl.IslandsOf(n, on) {
			load := impl.IslandLoad(n, on, buses, island[0])
			if impl.IslandFeed(n, on, buses, island[0]) >= load {
				sum += load
			}
		}
		served := impl.ServedLoad(n, on, buses)
		check(t, served == sum, n, on, buses, served, sum)
		check(t, 0 <= served && served <= total(buses).Load, n, on, buses, served)
	})
}

func TestP80ServedLoad(t *testing.T) {
	eachLife(func(n impl.Net, on []bool, buses []impl.Bus) {
		want := 0
		for bus, sum := range islandTotals(n, on, buses) {
			if sum.Feed >= sum.Load {
				want += buses[bus].Load
			}
		}
		served := impl.ServedLoad(n, on, buses)
		check(t, served == want, n, on, buses, served, want)
	})
}

// An island with as much as is wanted is served whole, one with 1 less not at all.
func TestP80TooLittle(t *testing.T) {
	n := readNet(t, "5 0-1:1 1-2:1 3-4:1")
	on := []bool{true, true, true}
	for feed := range 20 {
		buses := []impl.Bus{{Load: 4}, {Feed: feed, Load: 1}, {Load: 5}, {Feed: 7}, {Load: 7}}
		want := 7
		if feed >= 10 {
			want = 17
		}
		check(t, impl.ServedLoad(n, on, buses) == want, feed, impl.ServedLoad(n, on, buses))
		check(t, len(impl.AliveBuses(n, on, buses)) == 2+3*min(feed, 1), "alive", feed)
		buses[3].Feed = 6
		check(t, impl.ServedLoad(n, on, buses) == want-7, "both", feed, impl.ServedLoad(n, on, buses))
	}
	nothing := make([]impl.Bus, 5)
	check(t, impl.ServedLoad(n, on, nothing) == 0 && len(impl.AliveBuses(n, on, nothing)) == 0, "nothing")
	most := slices.Repeat([]impl.Bus{{Feed: impl.MaxPower, Load: impl.MaxPower}}, impl.MaxBuses)
	all := slices.Repeat([]bool{true}, impl.MaxLines)
	check(t, impl.ServedLoad(fullNet(), all, most) == impl.MaxBuses*impl.MaxPower, "the greatest sum")
}

func TestP80ArgumentsThatAreNotValid(t *testing.T) {
	eachWrongLife(func(n impl.Net, on []bool, buses []impl.Bus, told string) {
		check(t, impl.ServedLoad(n, on, buses) == -1, told, n, on, buses)
	})
}

func TestFeedsShareNoMemory(t *testing.T) {
	n := readNet(t, "5 0-1:1 1-2:1 3-4:1")
	memory := []impl.Bus{{Load: 4}, {Feed: 9}, {Load: 5}, {Feed: 7}, {Load: 7}, {Feed: 77, Load: 77}}
	buses, on := memory[:5], []bool{true, false, true}
	memoryBefore, onBefore := slices.Clone(memory), slices.Clone(on)
	first, second := impl.AliveBuses(n, on, buses), impl.AliveBuses(n, on, buses)
	spoilNumbers(first)
	check(t, slices.Equal(second, []int{0, 1, 3, 4}), "results share memory", second)
	check(t, impl.BusesValid(n, buses) && impl.ServedLoad(n, on, buses) == 11, "sums")
	check(t, impl.IslandFeed(n, on, buses, 4) == 7 && impl.IslandLoad(n, on, buses, 3) == 7, "island")
	check(t, slices.Equal(memory, memoryBefore) && slices.Equal(on, onBefore), "an argument was written to")
}
