package store_test

import (
	"fmt"
	"math/big"
	"reflect"
	"regexp"
	"slices"
	"strconv"
	"strings"
	"testing"

	"plaquette/api"
	"plaquette/loop"
	"plaquette/torus"
)

const (
	least    = -1 << 63
	greatest = 1<<63 - 1
	letters  = "abcdefghijklmnopqrstuvwx"
)

func u(a, b, c, d, n int) api.Unit {
	return api.Unit{A: a, B: b, C: c, D: d, N: n}
}

var (
	one      = u(1, 0, 0, 0, 1)
	rough    = u(1, 2, 2, 0, 3) // its N is just above that of a small unit
	beyond   = u(1, 5, 3, 1, 6) // valid, but its N is just above MaxLink
	notValid = u(1, 1, 0, 0, 1)
	point    = [3]int{1, 1, 1}
)

// validSizes returns the sizes of all toruses.
func validSizes() [][3]int {
	var l [][3]int
	for x := 1; x <= 4; x++ {
		for y := 1; y <= 4; y++ {
			for z := 1; z <= 4; z++ {
				if x*y*z <= 16 {
					l = append(l, [3]int{x, y, z})
				}
			}
		}
	}
	return l
}

// badSizes returns sizes for each way in which they may be none, also such whose product overflows to a small number.
func badSizes() [][3]int {
	l := [][3]int{
		{}, {4, 4, 2}, {2, 4, 4}, {4, 2, 4}, {3, 3, 2}, {4, 4, 4}, {-1, -1, 1}, {-2, 1, -2},
		{1 << 32, 1 << 32, 1}, {1 << 62, 4, 1}, {least, least, least}, {greatest, greatest, greatest},
	}
	for at := range 3 {
		for _, size := range []int{0, -1, 5, 16, least, greatest} {
			sizes := point
			sizes[at] = size
			l = append(l, sizes)
		}
	}
	return l
}

// outside returns numbers that are not from one number to another.
func outside(from, to int) []int {
	return []int{from - 1, to + 1, from - 2, to + 2, 1<<32 + 1, least, greatest}
}

// dice are numbers that look drawn and are the same in each run; they have nothing to do with the draws of the program.
type dice struct{ state uint64 }

func (d *dice) below(n int) int {
	d.state = d.state*6364136223846793005 + 1442695040888963407
	return int(d.state>>33) % n
}

// seed returns any seed.
func (d *dice) seed() int {
	return 1 + d.below(1<<30) + d.below(1<<30-1)
}

// bytes returns any bytes: also such that are no letters together.
func (d *dice) bytes(n int) string {
	var text []byte
	for range n {
		text = append(text, byte(d.below(256)))
	}
	return string(text)
}

// numbers returns the links of a small field.
func (d *dice) numbers(sizes [3]int) []int {
	l := make([]int, 3*sizes[0]*sizes[1]*sizes[2])
	for at := range l {
		l[at] = d.below(24)
	}
	return l
}

func fieldOf(t *testing.T, sizes [3]int, numbers []int) api.Field {
	t.Helper()
	f, e := torus.FromNumbers(sizes, numbers)
	if e != api.OK {
		t.Fatal("FromNumbers", sizes, numbers, e)
	}
	return f
}

// entryOf returns the entry of the field with these links.
func entryOf(t *testing.T, sizes [3]int, numbers []int, step, seed int) api.Entry {
	t.Helper()
	counts, e := loop.Histogram(fieldOf(t, sizes, numbers))
	if e != api.OK {
		t.Fatal("Histogram", e)
	}
	x := api.Entry{Step: step, Seed: seed, Counts: counts}
	for _, number := range numbers {
		x.Links += letters[number : number+1]
	}
	return x
}

// numbersOf returns the numbers of the links of an entry.
func numbersOf(x api.Entry) []int {
	var numbers []int
	for _, letter := range x.Links {
		numbers = append(numbers, strings.IndexRune(letters, letter))
	}
	return numbers
}

// cold is an entry of the cold field with one site.
func cold(step int) api.Entry {
	return api.Entry{Step: step, Seed: 1, Counts: [5]int{0, 0, 0, 0, 3}, Links: "aaa"}
}

// colds returns so many entries of the cold field.
func colds(n int) []api.Entry {
	var l []api.Entry
	for step := range n {
		l = append(l, cold(step))
	}
	return l
}

// entries returns entries of any fields, whose steps go up by one or by more.
func (d *dice) entries(t *testing.T, sizes [3]int, n int) []api.Entry {
	t.Helper()
	var l []api.Entry
	step := d.below(2)
	for range n {
		l = append(l, entryOf(t, sizes, d.numbers(sizes), step, d.seed()))
		step += 1 + d.below(3)*d.below(1000)
	}
	return l
}

// sumOf is the sum of a number and a text, written as a polynomial without limits.
func sumOf(before int, text string) int {
	total := big.NewInt(int64(before))
	for at := 0; at < len(text); at++ {
		total.Mul(total, big.NewInt(257))
		total.Add(total, big.NewInt(int64(text[at])+1))
	}
	// Mod is never negative.
	return int(total.Mod(total, big.NewInt(1000003)).Int64())
}

func headOf(sizes [3]int) string {
	return fmt.Sprintf("torus %d %d %d", sizes[0], sizes[1], sizes[2])
}

// restOf is what the line of an entry has behind its sum and the blank.
func restOf(x api.Entry) string {
	c := x.Counts
	return fmt.Sprintf("%d %d %d %d %d %d %d %s", x.Step, x.Seed, c[0], c[1], c[2], c[3], c[4], x.Links)
}

// chained returns a text with a first line and lines with right sums, whatever they are.
func chained(head string, rests ...string) string {
	sum, text := sumOf(0, head), head+"\n"
	for _, rest := range rests {
		sum = sumOf(sum, rest)
		text += fmt.Sprintf("%d %s\n", sum, rest)
	}
	return text
}

// archive returns the archive of entries, which need not be right.
func archive(sizes [3]int, l []api.Entry) string {
	var rests []string
	for _, x := range l {
		rests = append(rests, restOf(x))
	}
	return chained(headOf(sizes), rests...)
}

// linesOf returns the lines of a text, each with its line feed, and what is behind the last one.
func linesOf(text string) []string {
	return strings.SplitAfter(text, "\n")
}

var (
	headForm  = regexp.MustCompile(`\Atorus ([1-4]) ([1-4]) ([1-4])\n\z`)
	entryForm = regexp.MustCompile(`\A(0|[1-9][0-9]{0,6}) (0|[1-9][0-9]{0,6}) ([1-9][0-9]{0,9}) (0|[1-9][0-9]?) (0|[1-9][0-9]?) (0|[1-9][0-9]?) (0|[1-9][0-9]?) (0|[1-9][0-9]?) ([a-x]{3,48})\n\z`)
)

// readOf reads a text as the document describes it, by the forms of its lines; false if it has no right first line.
func readOf(text string) (sizes [3]int, l []api.Entry, rest string, is bool) {
	lines := linesOf(text)
	words := headForm.FindStringSubmatch(lines[0])
	if words == nil {
		return sizes, nil, "", false
	}
	for at := range sizes {
		sizes[at], _ = strconv.Atoi(words[at+1])
	}
	sites := sizes[0] * sizes[1] * sizes[2]
	if sites > 16 {
		return [3]int{}, nil, "", false
	}
	sum, rest := sumOf(0, strings.TrimSuffix(lines[0], "\n")), text[len(lines[0]):]
	for _, line := range lines[1:] {
		words := entryForm.FindStringSubmatch(line)
		if words == nil || len(l) == 60 {
			break
		}
		var numbers [8]int
		for at := range numbers {
			numbers[at], _ = strconv.Atoi(words[at+1])
		}
		_, behind, _ := strings.Cut(strings.TrimSuffix(line, "\n"), " ")
		x := api.Entry{Step: numbers[1], Seed: numbers[2], Counts: [5]int(numbers[3:]), Links: words[9]}
		right := numbers[0] == sumOf(sum, behind) && x.Step <= 1000000 && x.Seed <= 2147483646
		right = right && slices.Max(x.Counts[:]) <= 48 && len(x.Links) == 3*sites
		if !right || len(l) > 0 && x.Step <= l[len(l)-1].Step {
			break
		}
		l, sum, rest = append(l, x), numbers[0], rest[len(line):]
	}
	return sizes, l, rest, true
}

// refused checks the error of a call, and that every other result is its zero value.
func refused(t *testing.T, name string, e, want api.Errno, results ...any) {
	t.Helper()
	if e != want {
		t.Errorf("%s: the error %v, want %v", name, e, want)
	}
	for _, result := range results {
		value := reflect.ValueOf(result)
		empty := value.IsZero() || value.Kind() == reflect.Slice && value.Len() == 0
		if f, is := result.(api.Field); is {
			empty = f.Sizes == [3]int{} && len(f.Links) == 0
		}
		if !empty {
			t.Errorf("%s: %v, want the zero value", name, result)
		}
	}
}
