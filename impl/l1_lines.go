package impl

import (
	"strconv"
	"strings"
)

// MaxBuses is the maximum number of buses of a network; MaxLines bounds its lines, and MaxPower every power.
const (
	MaxBuses = 8
	MaxLines = 10
	MaxPower = 999
)

// Line is a line between the buses A and B, which can carry at most Most.
type Line struct {
	A    int
	B    int
	Most int
}

// Net is a network with the buses 0 to Buses-1 and its lines.
type Net struct {
	Buses int
	Lines []Line
}

// NetValid reports whether a network has 1..MaxBuses buses and at most MaxLines lines, each between two different ones of its buses, with Most in 1..MaxPower.
func NetValid(n Net) bool {
	if !within(n.Buses, 1, MaxBuses) || len(n.Lines) > MaxLines {
		return false
	}
	for _, l := range n.Lines {
		if !lineValid(l, n.Buses) {
			return false
		}
	}
	return true
}

func lineValid(l Line, buses int) bool {
	return within(l.A, 0, buses-1) && within(l.B, 0, buses-1) && l.A != l.B && within(l.Most, 1, MaxPower)
}

func within(x int, least int, most int) bool {
	return least <= x && x <= most
}

// LinesAt returns the indices of all lines of a valid network (NetValid) that end at a bus, in ascending order; nil for other networks.
func LinesAt(n Net, bus int) []int {
	if !NetValid(n) {
		return nil
	}
	var list []int
	for k, l := range n.Lines {
		if endsAt(l, bus) {
			list = append(list, k)
		}
	}
	return list
}

func endsAt(l Line, bus int) bool {
	return l.A == bus || l.B == bus
}

// OtherEnd returns the bus at the other end of a line of a valid network that ends at a bus; -1 if it does not end there, if there is no such line, and for other networks.
func OtherEnd(n Net, line int, bus int) int {
	if !NetValid(n) || !within(line, 0, len(n.Lines)-1) {
		return -1
	}
	switch l := n.Lines[line]; bus {
	case l.A:
		return l.B
	case l.B:
		return l.A
	}
	return -1
}

// LineBetween returns the first line of a valid network between two buses, in either direction; -1 if there is none, and for other networks.
func LineBetween(n Net, a int, b int) int {
	// Without the second check a bus would be joined to itself by its own first line.
	if !NetValid(n) || a == b {
		return -1
	}
	for k, l := range n.Lines {
		if endsAt(l, a) && endsAt(l, b) {
			return k
		}
	}
	return -1
}

// NetText returns the text of a valid network: the number of its buses, and for each line a space, A, a hyphen, B, a colon and Most; "" for other networks.
func NetText(n Net) string {
	if !NetValid(n) {
		return ""
	}
	text := strconv.Itoa(n.Buses)
	for _, l := range n.Lines {
		text += " " + strconv.Itoa(l.A) + "-" + strconv.Itoa(l.B) + ":" + strconv.Itoa(l.Most)
	}
	return text
}

// ReadNet returns the valid network whose NetText a text is, and true; the zero value and false if there is none.
func ReadNet(s string) (Net, bool) {
	// One word more than a network can have is enough to see that a text is too long.
	words := strings.SplitN(s, " ", MaxLines+2)
	n := Net{Buses: numberIn(words[0])}
	for _, word := range words[1:] {
		n.Lines = append(n.Lines, lineIn(word))
	}
	// Numbers are read loosely (signs, leading zeros); only writing them again shows that the text is canonical.
	if !NetValid(n) || NetText(n) != s {
		return Net{}, false
	}
	return n, true
}

func lineIn(word string) Line {
	ends, most, _ := strings.Cut(word, ":")
	a, b, _ := strings.Cut(ends, "-")
	return Line{A: numberIn(a), B: numberIn(b), Most: numberIn(most)}
}

// numberIn returns -1 for a word that is no number: no number of a valid network is less than 0.
func numberIn(word string) int {
	number, err := strconv.Atoi(word)
	if err != nil {
		return -1
	}
	return number
}
