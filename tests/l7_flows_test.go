package tests

import (
	"slices"
	"testing"

	"loop.example/powercontrol/impl"
)

// run is a network with buses and lines that are off, and what flows in it: through each line, from each bus, and through which lines too much.
type run struct {
	net   string
	off   []int
	buses []impl.Bus
	lines []int
	given []int
	over  []int
	good  bool
}

// runs are radial networks worked out by hand.
func runs() map[string]run {
	most := impl.Bus{Feed: impl.MaxPower, Load: impl.MaxPower}
	want := impl.Bus{Load: impl.MaxPower}
	return map[string]run{
		"one bus that is a feed": {net: "1", buses: []impl.Bus{{Feed: 4, Load: 4}}, given: []int{4}, good: true},
		"a feed with too little": {net: "1", buses: []impl.Bus{{Feed: 3, Load: 4}}, given: []int{4}},
		"one bus that is dead":   {net: "1", buses: []impl.Bus{{Load: 4}}, given: []int{0}, good: true},
		"a feed alone": {
			net: "2 0-1:5", off: []int{0}, buses: []impl.Bus{{Feed: 9, Load: 7}, {Load: 6}},
			lines: []int{0}, given: []int{7, 0}, good: true,
		},
		"a chain told from its end": {
			net: "4 2-3:3 2-1:5 0-1:9", buses: []impl.Bus{{Feed: 20, Load: 8}, {Load: 4}, {Load: 2}, {Load: 3}},
			lines: []int{3, 5, 9}, given: []int{17, 0, 0, 0}, good: true,
		},
		"a feed in the middle": {
			net: "5 0-1:1 1-2:3 2-3:12 3-4:7", buses: []impl.Bus{{Load: 1}, {Load: 2}, {Feed: 30, Load: 16}, {Load: 4}, {Load: 8}},
			lines: []int{1, 3, 12, 8}, given: []int{0, 0, 31, 0, 0}, over: []int{3},
		},
		"a dead island that wants much": {
			net: "4 0-1:1 2-3:6", buses: []impl.Bus{{Load: 50}, {Load: 60}, {Load: 6}, {Feed: 6}},
			lines: []int{0, 6}, given: []int{0, 0, 0, 6}, good: true,
		},
		"a line that is off, with much behind it": {
			net: "4 0-1:2 1-2:1 2-3:1", off: []int{1}, buses: []impl.Bus{{Feed: 3, Load: 1}, {Load: 2}, {Load: 70}, {Load: 80}},
			lines: []int{2, 0, 0}, given: []int{3, 0, 0, 0}, good: true,
		},
		"two islands, of which one has too little": {
			net: "5 0-1:9 3-4:9 1-2:9 2-3:9", off: []int{3}, buses: []impl.Bus{{Feed: 5}, {Load: 2}, {Load: 3}, {Load: 4}, {Feed: 4, Load: 1}},
			lines: []int{5, 4, 3, 0}, given: []int{5, 0, 0, 0, 5},
		},
		"a tree that branches twice": {
			net:   "7 6-5:63 5-4:2 5-3:44 3-2:8 3-1:32 1-0:15",
			buses: []impl.Bus{{Load: 16}, {Load: 32}, {Load: 8}, {Load: 4}, {Load: 2}, {Load: 1}, {Feed: 64, Load: 64}},
			lines: []int{63, 2, 60, 8, 48, 16}, given: []int{0, 0, 0, 0, 0, 0, 127}, over: []int{2, 4, 5},
		},
		"the last of three parallel lines": {
			net: "3 0-1:1 1-0:1 0-1:5 2-1:8", off: []int{0, 1}, buses: []impl.Bus{{Load: 5}, {Load: 3}, {Feed: 8}},
			lines: []int{0, 0, 5, 8}, given: []int{0, 0, 8}, good: true,
		},
		"the greatest loads in a star": {
			net: "4 0-1:999 0-2:999 0-3:998", buses: []impl.Bus{most, want, want, want},
			lines: []int{999, 999, 999}, given: []int{3996, 0, 0, 0}, over: []int{2},
		},
		"the greatest loads in a chain": {
			net:   "8 0-1:999 1-2:999 2-3:999 3-4:999 4-5:999 5-6:999 6-7:999",
			buses: []impl.Bus{most, want, want, want, want, want, want, want},
			lines: []int{6993, 5994, 4995, 3996, 2997, 1998, 999}, given: []int{7992, 0, 0, 0, 0, 0, 0, 0}, over: []int{0, 1, 2, 3, 4, 5},
		},
	}
}

// eachRun calls a function for the networks, states and buses of the runs.
func eachRun(t *testing.T, do func(name string, x run, n impl.Net, on []bool)) {
	t.Helper()
	for name, x := range runs() {
		n := readNet(t, x.net)
		on := allBut(n, x.off)
		do(name, x, n, on)
	}
}

func TestP5WhatComesInGoesOut(t *testing.T) {
	eachRadial(func(n impl.Net, on []bool, buses []impl.Bus) {
		for bus := range n.Buses {
			fed, parent := impl.FedBy(n, on, buses, bus), impl.ParentLine(n, on, buses, bus)
			if fed < 0 {
				continue
			}
			out := buses[bus].Load
			for _, k := range impl.LinesAt(n, bus) {
				if on[k] && k != parent {
					out += impl.LineFlow(n, on, buses, k)
				}
			}
			in := impl.FeedFlow(n, on, buses, bus)
			if fed != bus {
				check(t, in == 0, "no feed", n, on, buses, bus, in)
				in = impl.LineFlow(n, on, buses, parent)
			}
			check(t, in == out, n, on, buses, bus, in, out)
		}
	})
}

func TestP5LineFlow(t *testing.T) {
	eachFlow(func(n impl.Net, on []bool, buses []impl.Bus) {
		for k, want := range flowsIn(n, on, buses) {
			flow := impl.LineFlow(n, on, buses, k)
			check(t, flow == want, n, on, buses, k, flow, want)
		}
	})
	eachRun(t, func(name string, x run, n impl.Net, on []bool) {
		for k, want := range x.lines {
			flow := impl.LineFlow(n, on, x.buses, k)
			check(t, flow == want, name, k, flow)
		}
	})
}

func TestP5FlowIsWhatIsWantedBelow(t *testing.T) {
	eachRadial(func(n impl.Net, on []bool, buses []impl.Bus) {
		for k := range on {
			want := 0
			for _, bus := range impl.BelowLine(n, on, buses, k) {
				want += buses[bus].Load
			}
			flow := impl.LineFlow(n, on, buses, k)
			check(t, flow == want, n, on, buses, k, flow, want)
			check(t, on[k] || flow == 0, "off", n, on, buses, k, flow)
		}
	})
}

func TestP5FeedFlow(t *testing.T) {
	eachFlow(func(n impl.Net, on []bool, buses []impl.Bus) {
		for bus, want := range givenIn(n, on, buses) {
			given := impl.FeedFlow(n, on, buses, bus)
			check(t, given == want, n, on, buses, bus, given, want)
			check(t, buses[bus].Feed == 0 || given == impl.IslandLoad(n, on, buses, bus), "island", n, on, buses, bus, given)
		}
	})
	eachRun(t, func(name string, x run, n impl.Net, on []bool) {
		for bus, want := range x.given {
			given := impl.FeedFlow(n, on, x.buses, bus)
			check(t, given == want, name, bus, given)
		}
	})
}

// The load of a feed flows through no line, and the feed gives it.
func TestP5LoadsOfFeeds(t *testing.T) {
	n := starNet()
	on := slices.Repeat([]bool{true}, len(n.Lines))
	for feed := range n.Buses {
		for _, load := range []int{0, 1, impl.MaxPower} {
			buses := slices.Repeat([]impl.Bus{{Load: 2}}, n.Buses)
			buses[feed] = impl.Bus{Feed: 1, Load: load}
			check(t, impl.FeedFlow(n, on, buses, feed) == 14+load, feed, load)
			for k := range on {
				want := 2
				if k == feed {
					want = 14
				}
				check(t, impl.LineFlow(n, on, buses, k) == want, feed, load, k)
			}
		}
	}
}

func TestP5NoSuchLineOrBus(t *testing.T) {
	eachRadial(func(n impl.Net, on []bool, buses []impl.Bus) {
		for _, k := range noLines(n) {
			check(t, impl.LineFlow(n, on, buses, k) == -1, n, on, buses, k)
		}
		for _, bus := range noBuses(n) {
			check(t, impl.FeedFlow(n, on, buses, bus) == -1, n, on, buses, bus)
		}
	})
}

func TestP6GoodNetworksStayGood(t *testing.T) {
	good := 0
	eachFlow(func(n impl.Net, on []bool, buses []impl.Bus) {
		if !impl.NetGood(n, on, buses) {
			return
		}
		good++
		for k := range on {
			check(t, impl.NetGood(n, without(on, k), buses), n, on, buses, k)
		}
	})
	check(t, good > 1000, "too few", good)
}

func TestP6AllLoadsOfAliveBusesAreServed(t *testing.T) {
	eachTight(func(n impl.Net, on []bool, buses []impl.Bus) {
		check(t, impl.NetGood(n, on, buses), "tight", n, on, buses)
		alive := 0
		for _, bus := range impl.AliveBuses(n, on, buses) {
			alive += buses[bus].Load
		}
		served := impl.ServedLoad(n, on, buses)
		check(t, served == alive, n, on, buses, served, alive)
	})
}

func TestP6NetGood(t *testing.T) {
	good, other := 0, 0
	eachFlow(func(n impl.Net, on []bool, buses []impl.Bus) {
		want := isGood(n, on, buses)
		check(t, impl.NetGood(n, on, buses) == want, n, on, buses, want)
		if want {
			good++
		} else {
			other++
		}
	})
	check(t, good > 1000 && other > 1000, "too few", good, other)
	eachLife(func(n impl.Net, on []bool, buses []impl.Bus) {
		check(t, impl.NetGood(n, on, buses) == isGood(n, on, buses), n, on, buses)
	})
	eachRun(t, func(name string, x run, n impl.Net, on []bool) {
		check(t, impl.NetGood(n, on, x.buses) == x.good, name)
	})
}

// A tight network is not good any more with 1 less at any feed that gives more than 1, though no line carries too much.
func TestP6FeedsThatGiveTooMuch(t *testing.T) {
	less := 0
	eachTight(func(n impl.Net, on []bool, buses []impl.Bus) {
		for bus := range buses {
			if buses[bus].Feed < 2 {
				continue
			}
			less++
			buses[bus].Feed--
			check(t, !impl.NetGood(n, on, buses), n, on, buses, bus)
			check(t, len(impl.Overloads(n, on, buses)) == 0, "lines", n, on, buses, bus)
			buses[bus].Feed++
		}
	})
	check(t, less > 1000, "too few", less)
}

func TestP85FeedsGiveWhatIsWantedWhereThereIsLife(t *testing.T) {
	eachRadial(func(n impl.Net, on []bool, buses []impl.Bus) {
		given, alive := 0, 0
		for bus := range n.Buses {
			given += impl.FeedFlow(n, on, buses, bus)
		}
		for _, bus := range impl.AliveBuses(n, on, buses) {
			alive += buses[bus].Load
		}
		check(t, given == alive, n, on, buses, given, alive)
	})
}

func TestP86LinesThatCarryTooMuchAreTold(t *testing.T) {
	lines := 0
	eachFlow(func(n impl.Net, on []bool, buses []impl.Bus) {
		var want []int
		for k := range on {
			if impl.LineFlow(n, on, buses, k) > n.Lines[k].Most {
				want = append(want, k)
			}
		}
		over := impl.Overloads(n, on, buses)
		check(t, slices.Equal(over, want), n, on, buses, over, want)
		check(t, slices.Equal(over, tooMuch(n, on, buses)), "defined", n, on, buses, over)
		lines += len(over)
	})
	check(t, lines > 1000, "too few", lines)
	eachRun(t, func(name string, x run, n impl.Net, on []bool) {
		over := impl.Overloads(n, on, x.buses)
		check(t, slices.Equal(over, x.over), name, over)
	})
}

func TestP86NoOthersWithFewerLines(t *testing.T) {
	eachFlow(func(n impl.Net, on []bool, buses []impl.Bus) {
		over := impl.Overloads(n, on, buses)
		for k := range on {
			for _, other := range impl.Overloads(n, without(on, k), buses) {
				check(t, other != k && slices.Contains(over, other), n, on, buses, k, other)
			}
		}
	})
}

// In a tight network no line carries too much; with 1 less for any line that carries more than 1, this line alone does.
func TestP86ExactlyOneLineTooMuch(t *testing.T) {
	less := 0
	eachTight(func(n impl.Net, on []bool, buses []impl.Bus) {
		check(t, len(impl.Overloads(n, on, buses)) == 0, "tight", n, on, buses)
		for k := range n.Lines {
			if n.Lines[k].Most < 2 {
				continue
			}
			less++
			n.Lines[k].Most--
			over := impl.Overloads(n, on, buses)
			check(t, slices.Equal(over, []int{k}), n, on, buses, k, over)
			check(t, !impl.NetGood(n, on, buses), "good", n, on, buses, k)
			n.Lines[k].Most++
		}
	})
	check(t, less > 1000, "too few", less)
}

// flowsAreRefused checks that nothing is told of what flows in a network.
func flowsAreRefused(t *testing.T, n impl.Net, on []bool, buses []impl.Bus, told string) {
	t.Helper()
	for _, k := range []int{-1, 0, 1, 9, 10, len(on) - 1, len(on), len(n.Lines) - 1} {
		check(t, impl.LineFlow(n, on, buses, k) == -1, "line", told, n, on, buses, k)
	}
	for _, bus := range []int{-1, 0, 1, 7, 8, n.Buses - 1, n.Buses} {
		check(t, impl.FeedFlow(n, on, buses, bus) == -1, "feed", told, n, on, buses, bus)
	}
	check(t, impl.Overloads(n, on, buses) == nil, "overloads", told, n, on, buses)
	check(t, !impl.NetGood(n, on, buses), "good", told, n, on, buses)
}

func TestP5P6P85AndP86NotRadial(t *testing.T) {
	notRadial(t, func(n impl.Net, on []bool, buses []impl.Bus) {
		flowsAreRefused(t, n, on, buses, "not radial")
	})
}

func TestP5P6P85AndP86ArgumentsThatAreNotValid(t *testing.T) {
	eachWrongLife(func(n impl.Net, on []bool, buses []impl.Bus, told string) {
		flowsAreRefused(t, n, on, buses, told)
	})
}

func TestFlowsShareNoMemory(t *testing.T) {
	whole := readNet(t, "6 0-1:2 1-2:2 2-3:2 4-5:2 3-4:2 0-2:2")
	lines := whole.Lines
	n := impl.Net{Buses: 6, Lines: lines[:4]}
	stateMemory := []bool{true, true, true, true, true, false}
	busMemory := []impl.Bus{{Feed: 9, Load: 1}, {Load: 2}, {Load: 3}, {Load: 4}, {Feed: 5}, {Load: 6}, {Feed: 7}}
	on, buses := stateMemory[:4], busMemory[:6]
	linesBefore, statesBefore, busesBefore := slices.Clone(lines), slices.Clone(stateMemory), slices.Clone(busMemory)
	first, second := impl.Overloads(n, on, buses), impl.Overloads(n, on, buses)
	spoilNumbers(first)
	want := []int{0, 1, 2, 3}
	check(t, slices.Equal(second, want) && slices.Equal(impl.Overloads(n, on, buses), want), "results share memory", second)
	check(t, impl.LineFlow(n, on, buses, 0) == 9 && impl.LineFlow(n, on, buses, 3) == 6, "lines")
	check(t, impl.FeedFlow(n, on, buses, 0) == 10 && impl.FeedFlow(n, on, buses, 4) == 6, "feeds")
	check(t, !impl.NetGood(n, on, buses), "good")
	check(t, slices.Equal(lines, linesBefore) && slices.Equal(stateMemory, statesBefore), "a network or state was written to")
	check(t, slices.Equal(busMemory, busesBefore), "buses were written to")
}
