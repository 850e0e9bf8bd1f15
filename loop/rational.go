package loop

import "plaquette/api"

// mean returns the mean of numbers, of which there is at least one.
func mean(l []api.Rat) api.Rat {
	sum := api.Rat{Den: 1}
	for _, r := range l {
		sum = plus(sum, r)
	}
	return lowest(sum.Num, sum.Den*len(l))
}

// plus adds over the least common denominator, so that no int overflows: the N of a link is 1, 2, 3 or 5, and 2 never stays in a trace, so the denominators of traces along at most 8 links all divide 15^8, which is below 2^32. The product of two of them, and the sums of their numerators with coefficients, would not fit.
func plus(a, b api.Rat) api.Rat {
	g := divisor(a.Den, b.Den)
	return lowest(a.Num*(b.Den/g)+b.Num*(a.Den/g), a.Den/g*b.Den)
}

// lowest returns num / den in lowest terms; den is above 0.
func lowest(num, den int) api.Rat {
	g := divisor(den, num)
	return api.Rat{Num: num / g, Den: den / g}
}

// divisor returns the greatest common divisor of m, which is above 0, and n.
func divisor(m, n int) int {
	for n != 0 {
		m, n = n, m%n
	}
	return max(m, -m)
}
