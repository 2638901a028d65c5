package tests

import (
	"regexp"
	"slices"
	"strings"
	"testing"

	"loop.example/powercontrol/impl"
)

func sameNet(a impl.Net, b impl.Net) bool {
	return a.Buses == b.Buses && slices.Equal(a.Lines, b.Lines)
}

func TestP59FewerLines(t *testing.T) {
	for _, n := range goodNets() {
		check(t, impl.NetValid(n), "valid", n)
		for len(n.Lines) > 0 {
			loop := n.Lines[0]
			loop.B = loop.A
			check(t, !impl.NetValid(withLine(n, len(n.Lines)-1, loop)), "loop", n)
			n.Lines = n.Lines[:len(n.Lines)-1]
			check(t, impl.NetValid(n), "fewer", n)
			more := append(slices.Clone(n.Lines), loop)
			check(t, !impl.NetValid(impl.Net{Buses: n.Buses, Lines: more}), "with a loop", n)
		}
	}
	check(t, !impl.NetValid(impl.Net{}), "zero value")
}

func TestP59Bounds(t *testing.T) {
	for name, n := range badNets() {
		check(t, !impl.NetValid(n), name, n)
	}
	for buses := 1; buses <= impl.MaxBuses; buses++ {
		check(t, impl.NetValid(impl.Net{Buses: buses}), buses)
		for a := range buses {
			for b := range buses {
				n := impl.Net{Buses: buses, Lines: []impl.Line{{A: a, B: b, Most: 5}}}
				check(t, impl.NetValid(n) == (a != b), n)
			}
		}
	}
	for most := -2; most <= impl.MaxPower+2; most++ {
		n := withLine(fullNet(), 9, impl.Line{A: 7, B: 6, Most: most})
		check(t, impl.NetValid(n) == (1 <= most && most <= 999), "most", most)
	}
}

func TestP60LinesEndAtTwoBuses(t *testing.T) {
	for _, n := range goodNets() {
		sum := 0
		for bus := range n.Buses {
			var want []int
			for k, l := range n.Lines {
				if l.A == bus || l.B == bus {
					want = append(want, k)
				}
			}
			list := impl.LinesAt(n, bus)
			check(t, slices.Equal(list, want), n, bus, list)
			sum += len(list)
		}
		check(t, sum == 2*len(n.Lines), n, sum)
	}
}

func TestP60NoSuchBus(t *testing.T) {
	for _, n := range goodNets() {
		for _, bus := range append([]int{-1, n.Buses, impl.MaxBuses, 999}, farNumbers...) {
			check(t, len(impl.LinesAt(n, bus)) == 0, n, bus)
		}
	}
	for name, n := range badNets() {
		for bus := -1; bus <= impl.MaxBuses+1; bus++ {
			check(t, impl.LinesAt(n, bus) == nil, name, bus)
		}
	}
}

func TestP61OtherEnds(t *testing.T) {
	for _, n := range goodNets() {
		for k, l := range n.Lines {
			check(t, impl.OtherEnd(n, k, l.A) == l.B && impl.OtherEnd(n, k, l.B) == l.A, n, k)
		}
		for bus := range n.Buses {
			for _, k := range impl.LinesAt(n, bus) {
				other := impl.OtherEnd(n, k, bus)
				check(t, other != bus && impl.OtherEnd(n, k, other) == bus, n, k, bus)
				check(t, slices.Contains(impl.LinesAt(n, other), k), n, k, bus)
			}
		}
	}
}

func TestP61NoOtherEnd(t *testing.T) {
	for _, n := range goodNets() {
		for k, l := range n.Lines {
			for bus := -2; bus <= impl.MaxBuses+1; bus++ {
				check(t, bus == l.A || bus == l.B || impl.OtherEnd(n, k, bus) == -1, n, k, bus)
			}
		}
		for _, k := range append([]int{-1, len(n.Lines), impl.MaxLines}, farNumbers...) {
			for bus := -1; bus <= impl.MaxBuses; bus++ {
				check(t, impl.OtherEnd(n, k, bus) == -1, n, k, bus)
			}
		}
		for _, bus := range farNumbers {
			check(t, impl.OtherEnd(n, 0, bus) == -1, n, bus)
		}
	}
	for name, n := range badNets() {
		for k := -1; k <= len(n.Lines); k++ {
			for bus := -1; bus <= impl.MaxBuses; bus++ {
				check(t, impl.OtherEnd(n, k, bus) == -1, name, k, bus)
			}
		}
	}
}

func TestP62NoDirection(t *testing.T) {
	for _, n := range goodNets() {
		for a := -2; a <= impl.MaxBuses+1; a++ {
			for b := -2; b <= impl.MaxBuses+1; b++ {
				want := slices.IndexFunc(n.Lines, func(l impl.Line) bool {
					return l.A == a && l.B == b || l.A == b && l.B == a
				})
				check(t, impl.LineBetween(n, a, b) == want, n, a, b, want)
				check(t, impl.LineBetween(n, b, a) == want, n, b, a, want)
			}
		}
		for _, far := range farNumbers {
			check(t, impl.LineBetween(n, far, 0) == -1 && impl.LineBetween(n, 0, far) == -1, n, far)
			check(t, impl.LineBetween(n, far, far) == -1, n, far)
		}
	}
	for name, n := range badNets() {
		for a := range impl.MaxBuses {
			for b := range impl.MaxBuses {
				check(t, impl.LineBetween(n, a, b) == -1, name, a, b)
			}
		}
	}
}

func TestP63TextsAreRead(t *testing.T) {
	for _, n := range goodNets() {
		s := impl.NetText(n)
		got, ok := impl.ReadNet(s)
		check(t, ok && sameNet(got, n), n, s, got, ok)
	}
}

func TestP63Texts(t *testing.T) {
	texts := map[string]impl.Net{
		"1":                                {Buses: 1},
		"8":                                {Buses: 8},
		"2 1-0:1":                          {Buses: 2, Lines: []impl.Line{{A: 1, B: 0, Most: 1}}},
		"8 0-7:999":                        {Buses: 8, Lines: []impl.Line{{A: 0, B: 7, Most: 999}}},
		"3 0-1:20 2-1:100 1-0:20":          {Buses: 3, Lines: []impl.Line{{A: 0, B: 1, Most: 20}, {A: 2, B: 1, Most: 100}, {A: 1, B: 0, Most: 20}}},
		"2" + strings.Repeat(" 0-1:9", 10): {Buses: 2, Lines: slices.Repeat([]impl.Line{{A: 0, B: 1, Most: 9}}, 10)},
	}
	for s, n := range texts {
		check(t, impl.NetText(n) == s, "text", s, impl.NetText(n))
		got, ok := impl.ReadNet(s)
		check(t, ok && sameNet(got, n), "read", s, got, ok)
	}
	for name, n := range badNets() {
		check(t, impl.NetText(n) == "", name)
	}
}

var netPattern = regexp.MustCompile(`\A[1-8]( [0-7]-[0-7]:[1-9][0-9]{0,2}){0,10}\z`)

// isNetText tells from the text alone whether a network has it.
func isNetText(s string) bool {
	if !netPattern.MatchString(s) {
		return false
	}
	for _, word := range strings.Split(s, " ")[1:] {
		if word[0] >= s[0] || word[2] >= s[0] || word[0] == word[2] {
			return false
		}
	}
	return true
}

func refused(t *testing.T, s string) {
	t.Helper()
	n, ok := impl.ReadNet(s)
	check(t, !ok && sameNet(n, impl.Net{}), "not refused", s, n, ok)
}

func TestP64Canonical(t *testing.T) {
	for k, n := range goodNets() {
		s := impl.NetText(n)
		refused(t, s+" ")
		if k > 20 {
			continue
		}
		for _, near := range nearTexts(s, "019 -:+_.,x\n\x00\xff") {
			got, ok := impl.ReadNet(near)
			check(t, ok == isNetText(near), near, ok)
			check(t, !ok || impl.NetText(got) == near, near, got)
			check(t, ok || sameNet(got, impl.Net{}), near, got)
		}
	}
}

func TestP64Refused(t *testing.T) {
	long := strings.Repeat("9", 5000)
	for _, s := range []string{
		"", " ", "0", "9", "10", "-1", "+1", "01", "1 ", " 1", "1\n", "\t1", "x", "1x", "1.", "0x1", "1_0", "²", "١", "\xff", "\x00",
		"1 0-1:1", "1 0-0:1", "2 0-0:1", "2 0-2:1", "2 2-0:1", "2 0-1:0", "2 0-1:1000", "2 0-1:-1", "2 -1-1:5", "2 0--1:5",
		"2 +0-1:5", "2 0-+1:5", "2 0-1:+5", "+2 0-1:5", "2 00-1:5", "2 0-01:5", "2 0-1:05", "02 0-1:5", "2 -0-1:5", "2 0-1:-0", "-0",
		"2  0-1:5", "2 0-1:5 ", " 2 0-1:5", "2 0-1:5  1-0:5", "20-1:5", "2 0-1:51-0:5", "2 0-1: 5", "2 0 -1:5", "2 0- 1:5", "2 0-1 :5",
		"2 01:5", "2 0-15", "2 0:1-5", "2 0-1:5:5", "2 0-1-1:5", "2 0--1:5", "2 0-1::5", "2 0-1:", "2 -1:5", "2 0-:5", "2 :", "2 -", "2 -:", "2 0", "2 2",
		"2,0-1:5", "2\t0-1:5", "2\u00a00-1:5", "2 0-1:5\x00", "2 0-1:５", "2 0–1:5", "2 a-b:c", "2 0-1:1e2",
		long, "2 0-1:" + long, "2 " + long + "-1:5", "2 0-" + long + ":5", "2 0-1:18446744073709551617", "18446744073709551618", "4294967297",
		"2" + strings.Repeat(" 0-1:9", 11), "2" + strings.Repeat(" 0-1:9", 5000), "2" + strings.Repeat(" ", 5000), strings.Repeat(" ", 5000),
		"2" + strings.Repeat(" 0-1:9", 10) + " ", "2" + strings.Repeat(" 0-1:9", 10) + "\n",
	} {
		refused(t, s)
	}
}

func TestLinesShareNoMemory(t *testing.T) {
	hidden := append(fullNet().Lines, impl.Line{A: 77, B: 77, Most: 77})
	n := impl.Net{Buses: impl.MaxBuses, Lines: hidden[:impl.MaxLines]}
	before := slices.Clone(hidden)
	s := impl.NetText(n)
	for bus := range n.Buses {
		list := impl.LinesAt(n, bus)
		want := slices.Clone(list)
		for k := range list[:cap(list)] {
			list[:cap(list)][k] = -7
		}
		check(t, slices.Equal(impl.LinesAt(n, bus), want), bus)
		impl.OtherEnd(n, 0, bus)
		impl.LineBetween(n, bus, 0)
	}
	first, _ := impl.ReadNet(s)
	first.Lines[0] = impl.Line{}
	again, ok := impl.ReadNet(s)
	check(t, ok && sameNet(again, n), "read again", again)
	check(t, slices.Equal(hidden, before), "an argument was written to")
}
