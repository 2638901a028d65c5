package tests

import (
	"slices"
	"testing"

	"loop.example/powercontrol/impl"
)

// tree is a network with buses and lines that are off, and how each bus of it is fed then: by which feed, and on which way.
type tree struct {
	net   string
	off   []int
	feeds []int
	fedBy []int
	paths [][]int
}

// trees are radial networks worked out by hand: chains told in any order, feeds in the middle and at the ends, dead islands, and parallel lines of which one is on.
func trees() map[string]tree {
	return map[string]tree{
		"one bus that is a feed": {net: "1", feeds: []int{0}, fedBy: []int{0}, paths: [][]int{nil}},
		"one bus that is dead":   {net: "1", fedBy: []int{-1}, paths: [][]int{nil}},
		"two feeds apart":        {net: "2 0-1:5", off: []int{0}, feeds: []int{0, 1}, fedBy: []int{0, 1}, paths: [][]int{nil, nil}},
		"a dead island": {
			net: "4 0-1:5 2-3:5", feeds: []int{3}, fedBy: []int{-1, -1, 3, 3}, paths: [][]int{nil, nil, {1}, nil},
		},
		"all dead": {net: "3 0-1:5 1-2:5", fedBy: []int{-1, -1, -1}, paths: [][]int{nil, nil, nil}},
		"a dead bus behind a line that is off": {
			net: "3 0-1:5 1-2:5", off: []int{1}, feeds: []int{0}, fedBy: []int{0, 0, -1}, paths: [][]int{nil, {0}, nil},
		},
		"fed against the order of the lines": {
			net: "4 2-3:5 1-2:5 0-1:5", feeds: []int{0}, fedBy: []int{0, 0, 0, 0}, paths: [][]int{nil, {2}, {2, 1}, {2, 1, 0}},
		},
		"a feed in the middle": {
			net: "5 0-1:5 1-2:5 2-3:5 3-4:5", feeds: []int{2}, fedBy: []int{2, 2, 2, 2, 2}, paths: [][]int{{1, 0}, {1}, nil, {2}, {2, 3}},
		},
		"the last of three parallel lines": {
			net: "3 0-1:5 1-0:5 0-1:5 2-1:5", off: []int{0, 1}, feeds: []int{2}, fedBy: []int{2, 2, 2}, paths: [][]int{{3, 2}, {3}, nil},
		},
		"three islands": {
			net: "8 0-5:5 5-2:5 1-6:5 6-3:5 6-7:5 2-3:5", off: []int{5}, feeds: []int{2, 6},
			fedBy: []int{2, 6, 2, 6, -1, 2, 6, 6}, paths: [][]int{{1, 0}, {2}, nil, {3}, nil, {1}, nil, {4}},
		},
		"a tree that branches twice": {
			net: "7 6-5:5 5-4:5 5-3:5 3-2:5 3-1:5 1-0:5", feeds: []int{6}, fedBy: []int{6, 6, 6, 6, 6, 6, 6},
			paths: [][]int{{0, 2, 4, 5}, {0, 2, 4}, {0, 2, 3}, {0, 2}, {0, 1}, {0}, nil},
		},
	}
}

// eachTree calls a function for the networks, states and buses of the trees.
func eachTree(t *testing.T, do func(name string, x tree, n impl.Net, on []bool, buses []impl.Bus)) {
	t.Helper()
	for name, x := range trees() {
		n := readNet(t, x.net)
		on := allBut(n, x.off)
		buses := slices.Repeat([]impl.Bus{{Load: 4}}, n.Buses)
		for _, bus := range x.feeds {
			buses[bus].Feed = 1
		}
		do(name, x, n, on, buses)
	}
}

// noBuses are numbers that are no buses of a network.
func noBuses(n impl.Net) []int {
	return append([]int{-1, -2, n.Buses, n.Buses + 1, impl.MaxBuses, 64}, farNumbers...)
}

// noLines are numbers that are no lines of a network.
func noLines(n impl.Net) []int {
	return append([]int{-1, -2, len(n.Lines), len(n.Lines) + 1, impl.MaxLines, 64}, farNumbers...)
}

func TestP4WhatIsBelowALineLivesByIt(t *testing.T) {
	eachRadial(func(n impl.Net, on []bool, buses []impl.Bus) {
		alive := impl.AliveBuses(n, on, buses)
		for k := range on {
			left := impl.AliveBuses(n, without(on, k), buses)
			var lost []int
			for _, bus := range alive {
				if !slices.Contains(left, bus) {
					lost = append(lost, bus)
				}
			}
			below := impl.BelowLine(n, on, buses, k)
			check(t, slices.Equal(below, lost), n, on, buses, k, below, lost)
		}
	})
}

func TestP4BelowLine(t *testing.T) {
	eachRadial(func(n impl.Net, on []bool, buses []impl.Bus) {
		for k := range on {
			var want []int
			for bus := range n.Buses {
				if slices.Contains(impl.PathLines(n, on, buses, bus), k) {
					want = append(want, bus)
				}
			}
			below := impl.BelowLine(n, on, buses, k)
			check(t, slices.Equal(below, want), n, on, buses, k, below, want)
			check(t, on[k] || len(below) == 0, "off", n, on, buses, k, below)
		}
	})
}

func TestP4Trees(t *testing.T) {
	eachTree(t, func(name string, x tree, n impl.Net, on []bool, buses []impl.Bus) {
		for k := range on {
			var want []int
			for bus, path := range x.paths {
				if slices.Contains(path, k) {
					want = append(want, bus)
				}
			}
			below := impl.BelowLine(n, on, buses, k)
			check(t, slices.Equal(below, want), name, k, below)
		}
	})
}

func TestP4NoSuchLine(t *testing.T) {
	eachRadial(func(n impl.Net, on []bool, buses []impl.Bus) {
		for _, k := range noLines(n) {
			check(t, impl.BelowLine(n, on, buses, k) == nil, n, on, buses, k)
		}
	})
}

func TestP81RadialNetworksStayRadial(t *testing.T) {
	eachRadial(func(n impl.Net, on []bool, buses []impl.Bus) {
		check(t, impl.Radial(n, on, buses), n, on, buses)
		for k := range on {
			check(t, impl.Radial(n, without(on, k), buses), "with fewer", n, on, buses, k)
		}
	})
}

func TestP81NotRadialWithACycle(t *testing.T) {
	cycles := 0
	eachRadial(func(n impl.Net, on []bool, buses []impl.Bus) {
		ways := joined(n, on)
		for k, l := range n.Lines {
			if !on[k] && ways[l.A][l.B] {
				with := slices.Clone(on)
				with[k] = true
				check(t, !impl.Radial(n, with, buses), n, with, buses)
				cycles++
			}
		}
	})
	check(t, cycles > 1000, "too few", cycles)
	eachState(func(n impl.Net, on []bool) {
		dead := make([]impl.Bus, n.Buses)
		check(t, impl.Radial(n, on, dead) == !impl.HasCycle(n, on), "dead", n, on)
	})
}

func TestP81Radial(t *testing.T) {
	eachLife(func(n impl.Net, on []bool, buses []impl.Bus) {
		check(t, impl.Radial(n, on, buses) == isRadial(n, on, buses), n, on, buses)
	})
	notRadial(t, func(n impl.Net, on []bool, buses []impl.Bus) {
		check(t, !impl.Radial(n, on, buses), n, on, buses)
	})
	eachTree(t, func(name string, _ tree, n impl.Net, on []bool, buses []impl.Bus) {
		check(t, impl.Radial(n, on, buses), name)
	})
}

// Two feeds of one island are too many wherever they are, and however little they give; in two islands they are not.
func TestP81TwoFeeds(t *testing.T) {
	for _, n := range []impl.Net{chainNet(), crossedNet(), starNet()} {
		for _, on := range allStates(len(n.Lines)) {
			ways := joined(n, on)
			for a := range n.Buses {
				for b := range a {
					buses := make([]impl.Bus, n.Buses)
					buses[a].Feed, buses[b].Feed = 1, impl.MaxPower
					check(t, impl.Radial(n, on, buses) == !ways[a][b], n, on, a, b)
				}
			}
		}
	}
}

func TestP81ArgumentsThatAreNotValid(t *testing.T) {
	eachWrongLife(func(n impl.Net, on []bool, buses []impl.Bus, told string) {
		check(t, !impl.Radial(n, on, buses), told, n, on, buses)
	})
}

func TestP82EveryIslandHasOneFeed(t *testing.T) {
	eachRadial(func(n impl.Net, on []bool, buses []impl.Bus) {
		alive := impl.AliveBuses(n, on, buses)
		for bus := range n.Buses {
			feed := impl.FedBy(n, on, buses, bus)
			check(t, (feed >= 0) == slices.Contains(alive, bus), "alive", n, on, buses, bus, feed)
			if feed < 0 {
				check(t, feed == -1, n, on, buses, bus, feed)
				continue
			}
			island := impl.Reached(n, on, bus)
			check(t, slices.Contains(island, feed), "island", n, on, buses, bus, feed)
			check(t, impl.FedBy(n, on, buses, feed) == feed, "itself", n, on, buses, bus, feed)
			for _, other := range island {
				check(t, (buses[other].Feed > 0) == (other == feed), "other", n, on, buses, bus, feed)
			}
		}
	})
}

func TestP82FedBy(t *testing.T) {
	eachRadial(func(n impl.Net, on []bool, buses []impl.Bus) {
		for bus := range n.Buses {
			feed, want := impl.FedBy(n, on, buses, bus), feedFor(n, on, buses, bus)
			check(t, feed == want, n, on, buses, bus, feed, want)
		}
	})
	eachTree(t, func(name string, x tree, n impl.Net, on []bool, buses []impl.Bus) {
		for bus, want := range x.fedBy {
			check(t, impl.FedBy(n, on, buses, bus) == want, name, bus)
		}
	})
}

func TestP83ParentsAreNearerToTheFeed(t *testing.T) {
	eachRadial(func(n impl.Net, on []bool, buses []impl.Bus) {
		for bus := range n.Buses {
			line := impl.ParentLine(n, on, buses, bus)
			fed := impl.FedBy(n, on, buses, bus)
			check(t, (line == -1) == (fed == -1 || fed == bus), "parent", n, on, buses, bus, line)
			if line == -1 {
				continue
			}
			check(t, 0 <= line && line < len(on) && on[line], "on", n, on, buses, bus, line)
			other := impl.OtherEnd(n, line, bus)
			check(t, other >= 0, "ends", n, on, buses, bus, line)
			check(t, impl.FedBy(n, on, buses, other) == fed, "feed", n, on, buses, bus, line)
			path := append(slices.Clone(impl.PathLines(n, on, buses, other)), line)
			check(t, slices.Equal(impl.PathLines(n, on, buses, bus), path), "path", n, on, buses, bus, line)
		}
	})
}

func TestP83ParentLine(t *testing.T) {
	last := func(way []int) int {
		if len(way) == 0 {
			return -1
		}
		return way[len(way)-1]
	}
	eachRadial(func(n impl.Net, on []bool, buses []impl.Bus) {
		for bus := range n.Buses {
			want := last(wayBetween(n, on, feedFor(n, on, buses, bus), bus))
			line := impl.ParentLine(n, on, buses, bus)
			check(t, line == want, n, on, buses, bus, line, want)
		}
	})
	eachTree(t, func(name string, x tree, n impl.Net, on []bool, buses []impl.Bus) {
		for bus, path := range x.paths {
			line := impl.ParentLine(n, on, buses, bus)
			check(t, line == last(path), name, bus, line)
		}
	})
}

func TestP84PathsLeadFromTheFeedToTheBus(t *testing.T) {
	eachRadial(func(n impl.Net, on []bool, buses []impl.Bus) {
		for bus := range n.Buses {
			path := impl.PathLines(n, on, buses, bus)
			at := impl.FedBy(n, on, buses, bus)
			if at < 0 {
				check(t, len(path) == 0, "not fed", n, on, buses, bus, path)
				continue
			}
			for k, line := range path {
				check(t, on[line] && !slices.Contains(path[:k], line), "line", n, on, buses, bus, path)
				at = impl.OtherEnd(n, line, at)
				check(t, at >= 0, "begins", n, on, buses, bus, path)
			}
			check(t, at == bus, "end", n, on, buses, bus, path)
		}
	})
}

func TestP84PathLines(t *testing.T) {
	eachRadial(func(n impl.Net, on []bool, buses []impl.Bus) {
		for bus := range n.Buses {
			want := wayBetween(n, on, feedFor(n, on, buses, bus), bus)
			path := impl.PathLines(n, on, buses, bus)
			check(t, slices.Equal(path, want), n, on, buses, bus, path, want)
		}
	})
	eachTree(t, func(name string, x tree, n impl.Net, on []bool, buses []impl.Bus) {
		for bus, want := range x.paths {
			path := impl.PathLines(n, on, buses, bus)
			check(t, slices.Equal(path, want), name, bus, path)
		}
	})
}

// busesAreRefused checks that nothing is told of how any of these buses is fed.
func busesAreRefused(t *testing.T, n impl.Net, on []bool, buses []impl.Bus, list []int, told string) {
	t.Helper()
	for _, bus := range list {
		check(t, impl.FedBy(n, on, buses, bus) == -1, "fed by", told, n, on, buses, bus)
		check(t, impl.ParentLine(n, on, buses, bus) == -1, "parent", told, n, on, buses, bus)
		check(t, impl.PathLines(n, on, buses, bus) == nil, "path", told, n, on, buses, bus)
	}
}

func TestP82ToP84NoSuchBus(t *testing.T) {
	for k, n := range goodNets() {
		for _, on := range netStates(n) {
			alone := forest(n, on)
			busesAreRefused(t, n, alone, oneFeed(int64(k), n, alone), noBuses(n), "no such bus")
		}
	}
}

func TestP4AndP82ToP84NotRadial(t *testing.T) {
	notRadial(t, func(n impl.Net, on []bool, buses []impl.Bus) {
		busesAreRefused(t, n, on, buses, []int{-1, 0, 1, n.Buses - 1, n.Buses}, "not radial")
		for k := range len(on) + 2 {
			check(t, impl.BelowLine(n, on, buses, k-1) == nil, n, on, buses, k-1)
		}
	})
}

func TestP4AndP82ToP84ArgumentsThatAreNotValid(t *testing.T) {
	eachWrongLife(func(n impl.Net, on []bool, buses []impl.Bus, told string) {
		busesAreRefused(t, n, on, buses, []int{-1, 0, 1, 7, 8, n.Buses - 1, n.Buses}, told)
		for _, k := range []int{-1, 0, 1, 9, 10, len(on) - 1, len(on)} {
			check(t, impl.BelowLine(n, on, buses, k) == nil, told, n, on, buses, k)
		}
	})
}

func TestRadialSharesNoMemory(t *testing.T) {
	whole := readNet(t, "6 0-1:9 1-2:8 2-3:7 4-5:6 3-4:5 0-2:4")
	lines := whole.Lines
	n := impl.Net{Buses: 6, Lines: lines[:4]}
	stateMemory := []bool{true, true, true, true, true, false}
	busMemory := []impl.Bus{{Feed: 9}, {Load: 1}, {Load: 2}, {Load: 3}, {Feed: 4}, {Load: 5}, {Feed: 6}}
	on, buses := stateMemory[:4], busMemory[:6]
	linesBefore, statesBefore, busesBefore := slices.Clone(lines), slices.Clone(stateMemory), slices.Clone(busMemory)
	for _, call := range []func() []int{
		func() []int { return impl.PathLines(n, on, buses, 3) },
		func() []int { return impl.PathLines(n, on, buses, 5) },
		func() []int { return impl.BelowLine(n, on, buses, 1) },
	} {
		first, second := call(), call()
		want := slices.Clone(second)
		check(t, len(want) > 0, "nothing to share")
		spoilNumbers(first)
		check(t, slices.Equal(second, want) && slices.Equal(call(), want), "results share memory", want)
	}
	check(t, impl.Radial(n, on, buses) && impl.FedBy(n, on, buses, 5) == 4 && impl.ParentLine(n, on, buses, 3) == 2, "fed")
	check(t, slices.Equal(lines, linesBefore) && slices.Equal(stateMemory, statesBefore), "a network or state was written to")
	check(t, slices.Equal(busMemory, busesBefore), "buses were written to")
}
