package chance

import (
	"plaquette/api"
	"plaquette/quat"
)

// row is what the table of a link has for a value: the unit that stands for it, and its weight. The weight is a function because only a heat bath needs all of them.
type row struct {
	unit   api.Unit
	weight func() (int, api.Errno)
}

// tableOf returns the table of a link: a row for each value. It holds as long as no link of the field is changed.
func tableOf(f api.Field, w [5]int, link int) ([values]row, api.Errno) {
	c, e := crossingAt(f, link)
	if e != api.OK {
		return [values]row{}, e
	}
	var table [values]row
	for k := range table {
		unit, e := quat.Small(k)
		if e != api.OK {
			return [values]row{}, e
		}
		table[k] = row{unit, func() (int, api.Errno) { return c.weight(w, unit) }}
	}
	return table, api.OK
}

// weightsOf returns all weights of a table.
func weightsOf(table [values]row) ([values]int, api.Errno) {
	var weights [values]int
	for k, r := range table {
		weight, e := r.weight()
		if e != api.OK {
			return [values]int{}, e
		}
		weights[k] = weight
	}
	return weights, api.OK
}

// pair returns the weights of two values.
func pair(table [values]row, first, second int) (a, b int, e api.Errno) {
	if a, e = table[first].weight(); e != api.OK {
		return 0, 0, e
	}
	if b, e = table[second].weight(); e != api.OK {
		return 0, 0, e
	}
	return a, b, api.OK
}

// Weights: see P5.2.
func Weights(f api.Field, w [5]int, link int) ([24]int, api.Errno) {
	if e := checkLink(f, w, link); e != api.OK {
		return [values]int{}, e
	}
	table, e := tableOf(f, w, link)
	if e != api.OK {
		return [values]int{}, e
	}
	return weightsOf(table)
}

// Flow: see P5.3. The value from which a heat bath comes makes no difference: the weights of all values are those of the field in which the link has them.
func Flow(f api.Field, w [5]int, link, from, to int) (int, api.Errno) {
	weights, e := Weights(f, w, link)
	if e != api.OK {
		return 0, e
	}
	if !isValue(from) || !isValue(to) {
		return 0, api.ErrArg
	}
	return weights[to], api.OK
}

// Ratio: see P5.4.
func Ratio(f api.Field, w [5]int, link, to int) (api.Rat, api.Errno) {
	if e := checkLink(f, w, link); e != api.OK {
		return api.Rat{}, e
	}
	if !isValue(to) {
		return api.Rat{}, api.ErrArg
	}
	table, e := tableOf(f, w, link)
	if e != api.OK {
		return api.Rat{}, e
	}
	old, _, e := quat.Number(f.Links[link])
	if e != api.OK {
		return api.Rat{}, e
	}
	above, below, e := pair(table, to, old)
	if e != api.OK {
		return api.Rat{}, e
	}
	g := divisor(above, below)
	return api.Rat{Num: above / g, Den: below / g}, api.OK
}

// divisor returns the greatest common divisor of two numbers above 0.
func divisor(m, n int) int {
	for n != 0 {
		m, n = n, m%n
	}
	return m
}
