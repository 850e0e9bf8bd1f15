package store

import (
	"bytes"
	"strconv"
	"strings"

	"plaquette/api"
	"plaquette/torus"
)

const (
	sizeNumbers  = 3 // in a first line
	entryNumbers = 7 // in the line of an entry behind its sum: the step, the seed and the counts
)

// cut returns the first line of a text, without its line feed as in all functions here, and what is behind that; false if no line has ended.
func cut(text []byte) (line, behind []byte, is bool) {
	end := bytes.IndexByte(text, '\n')
	if end < 0 {
		return nil, nil, false
	}
	// A line has no capacity beyond its end: nothing that is appended to it could run into the next one.
	return text[:end:end], text[end+1:], true
}

// firstLine returns the line of the sizes.
func firstLine(sizes [3]int) string {
	line := "torus"
	for _, size := range sizes {
		line += " " + strconv.Itoa(size)
	}
	return line
}

// linked returns the line of an entry behind a line with a sum, and its own sum.
func linked(before int, x api.Entry) (string, int) {
	words := []string{strconv.Itoa(x.Step), strconv.Itoa(x.Seed)}
	for _, count := range x.Counts {
		words = append(words, strconv.Itoa(count))
	}
	rest := strings.Join(append(words, x.Links), " ")
	sum := Sum(before, rest)
	return strconv.Itoa(sum) + " " + rest, sum
}

// sizesIn returns the sizes in a line, and whether it is a right first line.
func sizesIn(line string) ([3]int, bool) {
	_, rest, _ := strings.Cut(line, " ")
	numbers, _ := numbersIn(rest, sizeNumbers)
	sizes := [3]int(numbers)
	return sizes, torus.ValidateSizes(sizes) == api.OK && firstLine(sizes) == line
}

// entryIn returns the entry in a line. Its sum is left out, because it need only be held against the right one.
func entryIn(line string) api.Entry {
	_, rest, _ := strings.Cut(line, " ")
	numbers, links := numbersIn(rest, entryNumbers)
	return api.Entry{Step: numbers[0], Seed: numbers[1], Counts: [5]int(numbers[2:]), Links: links}
}

// numbersIn returns so many numbers from the words of a text, and what is behind them. A word that is no number gives one that is written in another way: so whoever calls this writes them again to see whether they are right.
func numbersIn(text string, n int) ([]int, string) {
	numbers := make([]int, n)
	for at := range numbers {
		var word string
		word, text, _ = strings.Cut(text, " ")
		numbers[at], _ = strconv.Atoi(word)
	}
	return numbers, text
}
