package run

import (
	"strconv"
	"strings"

	"plaquette/api"
)

// kind is a kind of orders.
type kind int

const (
	coldOrder kind = iota
	hotOrder
	seedOrder
	weightsOrder
	leapOrder
	sweepOrder
	touchOrder
	pathOrder
	noiseOrder
	centerOrder
	saveOrder
)

// form says how the orders of a kind are written: a word, and so many numbers.
type form struct {
	kind    kind
	word    string
	numbers int
}

var forms = [...]form{
	{coldOrder, "cold", 0},
	{hotOrder, "hot", 0},
	{seedOrder, "seed", 1},
	{weightsOrder, "weights", 5},
	{leapOrder, "leap", 1},
	{sweepOrder, "sweep", 1},
	{touchOrder, "touch", 1},
	{pathOrder, "path", 2},
	{noiseOrder, "noise", 0},
	{centerOrder, "center", 1},
	{saveOrder, "save", 0},
}

// order is what a line of text asks for.
type order struct {
	kind    kind
	numbers []int // as many as its form says
}

// orderIn returns the order in a text; false if it is none. That a text is not empty need not be asked: no form has an empty word.
func orderIn(text string) (order, bool) {
	if len(text) > api.MaxLine {
		return order{}, false
	}
	words := strings.Split(text, " ")
	numbers, are := numbersIn(words[1:])
	if !are {
		return order{}, false
	}
	for _, f := range forms {
		if f.word == words[0] && f.numbers == len(numbers) {
			return order{f.kind, numbers}, true
		}
	}
	return order{}, false
}

// numbersIn returns the numbers that words are; false if one of them is none.
func numbersIn(words []string) ([]int, bool) {
	numbers := make([]int, 0, len(words))
	for _, word := range words {
		n, err := strconv.Atoi(word)
		// Atoi reads more than R9 allows, such as a plus or a leading zero: that is not what is written again.
		if err != nil || n < 0 || n > api.Prime || strconv.Itoa(n) != word {
			return nil, false
		}
		numbers = append(numbers, n)
	}
	return numbers, true
}

// refusal is the error of an order that is refused.
type refusal struct {
	order  string
	reason api.Errno
}

// Error returns the order and the number of the reason.
func (r refusal) Error() string {
	return strconv.Quote(r.order) + " is refused with the error " + strconv.Itoa(int(r.reason))
}
