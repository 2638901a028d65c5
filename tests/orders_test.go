package tests

import (
	"math/rand"
	"slices"
	"strconv"
	"strings"

	"loop.example/powercontrol/impl"
)

// order is the order whose steps a text tells: + and the number of a line to switch it on, - to switch it off.
func order(s string) []impl.Step {
	var list []impl.Step
	for _, word := range strings.Fields(s) {
		line, err := strconv.Atoi(word[1:])
		if err != nil {
			panic(err)
		}
		list = append(list, impl.Step{At: line, To: word[0] == '+'})
	}
	return list
}

// state is the state of which a text has a 1 for each line that is on and a 0 for each one that is off.
func state(s string) []bool {
	on := []bool{}
	for _, letter := range s {
		on = append(on, letter == '1')
	}
	return on
}

// anySteps is an order by chance with so many steps, the same one for the same seed; it names lines below a number alone.
func anySteps(seed int64, many int, lines int) []impl.Step {
	r := rand.New(rand.NewSource(seed))
	list := []impl.Step{}
	for range many {
		list = append(list, impl.Step{At: r.Intn(lines), To: r.Intn(2) == 1})
	}
	return list
}

// possibleSteps is an order by chance with so many steps, all of which can be done from a state that has lines, the same one for the same seed.
func possibleSteps(seed int64, many int, on []bool) []impl.Step {
	on = slices.Clone(on)
	list := anySteps(seed, many, len(on))
	for k, step := range list {
		on[step.At] = !on[step.At]
		list[k].To = on[step.At]
	}
	return list
}

// goodOrders are valid orders: those of up to two steps, all of them, and of every length the extreme ones and many by chance.
func goodOrders() [][]impl.Step {
	list := [][]impl.Step{nil, {}}
	var single []impl.Step
	for line := range impl.MaxLines {
		single = append(single, impl.Step{At: line}, impl.Step{At: line, To: true})
	}
	for _, first := range single {
		list = append(list, []impl.Step{first})
		for _, second := range single {
			list = append(list, []impl.Step{first, second})
		}
		for many := 3; many <= impl.MaxSteps; many++ {
			list = append(list, slices.Repeat([]impl.Step{first}, many))
		}
	}
	for seed := range int64(400) {
		list = append(list, anySteps(seed, int(seed)%(impl.MaxSteps+1), impl.MaxLines))
	}
	return list
}

// noOrderLines are numbers that no step of a valid order has; some of them would be lines, if a part of their bits were all that is looked at.
func noOrderLines() []int {
	return append([]int{-10, -2, -1, impl.MaxLines, impl.MaxLines + 1, 15, 16, 64, 256, 1 << 32, 1<<32 + 1, 1 << 62}, farNumbers...)
}

// badOrders are orders that are not valid, each for one reason.
func badOrders() map[string][]impl.Step {
	bad := map[string][]impl.Step{}
	for _, many := range []int{impl.MaxSteps + 1, impl.MaxSteps + 2, 24, 64, 256, 268, 1000} {
		bad[text(many)+" steps off"] = make([]impl.Step, many)
		bad[text(many)+" steps"] = anySteps(int64(many), many, impl.MaxLines)
		bad[text(many)+" steps of two lines"] = anySteps(int64(many), many, 2)
		bad[text(many)+" steps one by one"] = possibleSteps(int64(many), many, []bool{false, false})
	}
	for _, line := range noOrderLines() {
		for _, many := range []int{1, 2, 5, impl.MaxSteps} {
			for at := range many {
				for _, to := range []bool{false, true} {
					list := possibleSteps(int64(at), many, []bool{false, false})
					list[at] = impl.Step{At: line, To: to}
					bad["line "+text(line, many, at)+strconv.FormatBool(to)] = list
				}
			}
		}
	}
	return bad
}

// orderWords is the text of a valid order, as the document has it.
func orderWords(list []impl.Step) string {
	if len(list) == 0 {
		return "nothing"
	}
	words := ""
	for _, step := range list {
		if step.To {
			words += ";on "
		} else {
			words += ";off "
		}
		words += string("0123456789"[step.At])
	}
	return words[1:]
}

// afterSteps is a state after the steps of a valid order that can be done, and how many these are, as the document has it.
func afterSteps(on []bool, list []impl.Step) ([]bool, int) {
	on = slices.Clone(on)
	done := 0
	for done < len(list) && isPossible(on, list[done]) {
		on[list[done].At] = !on[list[done].At]
		done++
	}
	return on, done
}

// isPossible reports whether a state has the line of a step, and the step changes it.
func isPossible(on []bool, step impl.Step) bool {
	for line, isOn := range on {
		if line == step.At {
			return isOn && !step.To || !isOn && step.To
		}
	}
	return false
}

// eachOrderRun calls a function for many networks with states and valid orders: for a small one with all short orders, also of a line that is not there, and for many others with orders by chance of which all steps, most, or a few can be done.
func eachOrderRun(do func(n impl.Net, on []bool, list []impl.Step)) {
	n := ringNet(3, 3)
	for _, on := range allStates(3) {
		for number := range 9 * 9 * 9 {
			var list []impl.Step
			for rest := number; rest > 0; rest /= 9 {
				if rest%9 > 0 {
					list = append(list, impl.Step{At: (rest%9 - 1) / 2, To: rest%2 == 0})
				}
			}
			do(n, on, list)
		}
	}
	for _, n := range goodNets() {
		for seed, on := range netStates(n) {
			for many := range impl.MaxSteps + 1 {
				do(n, on, anySteps(int64(seed), many, impl.MaxLines))
				if len(on) == 0 {
					continue
				}
				list := possibleSteps(int64(seed), many, on)
				do(n, on, list)
				if many > 0 {
					list = slices.Clone(list)
					at := seed % many
					list[at].To = !list[at].To
					do(n, on, list)
				}
			}
		}
	}
}
