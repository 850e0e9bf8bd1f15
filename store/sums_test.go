package store_test

import (
	"strings"
	"testing"

	"plaquette/store"
)

// befores returns numbers with which a sum may begin: all of them are taken modulo 1000003.
func befores() []int {
	return []int{0, 1, 77, 1000002, 1000003, 1000004, 2000006, 1 << 40, greatest, -1, -1000002, -1000003, -1000004, least, least + 1}
}

// chapter store: Sum. All bytes, one by one and in any texts.
func TestSum(t *testing.T) {
	d := dice{1}
	texts := []string{"", "é", "日本", "a\u0300b", "\xff\xfe", "\xc3", "\xc3\xc3\xa9", "\x00", "a\x00", "\U0010ffff", "\xf0\x9f", "\n"}
	for b := range 256 {
		texts = append(texts, string([]byte{byte(b)}), string([]byte{'a', byte(b), 'b'}))
	}
	for n := range 100 {
		texts = append(texts, d.bytes(n))
	}
	texts = append(texts, strings.Repeat("\xff", 5000), strings.Repeat("日", 1000), strings.Repeat("a 1 ", 1000))
	for _, text := range texts {
		for _, before := range befores() {
			if sum := store.Sum(before, text); sum != sumOf(before, text) {
				t.Errorf("Sum of %d and %q: %d, want %d", before, text, sum, sumOf(before, text))
			}
		}
	}
}

// chapter store: Sum
func TestSumExamples(t *testing.T) {
	for _, x := range []struct {
		before int
		text   string
		want   int
	}{
		{0, "", 0}, {5, "", 5}, {-1, "", 1000002}, {1000003, "", 0}, {-1000003, "", 0}, {1000004, "", 1},
		{0, "a", 98}, {0, "ab", 98*257 + 99}, {1, "a", 257 + 98}, {-1, "a", 1000003 - 257 + 98}, {0, "\x00", 1}, {0, "\x00\x00", 258},
		{0, "\xff", 256}, {0, "é", 196*257 + 170}, {0, "\xff\xff\xff", 974544}, {0, "torus 1 1 1", 135543},
	} {
		if sum := store.Sum(x.before, x.text); sum != x.want {
			t.Errorf("Sum of %d and %q: %d, want %d", x.before, x.text, sum, x.want)
		}
	}
}

// chapter store: a sum goes on where the one before ended.
func TestSumGoesOn(t *testing.T) {
	d := dice{2}
	for _, before := range befores() {
		text := d.bytes(40)
		for at := range len(text) + 1 {
			if sum := store.Sum(store.Sum(before, text[:at]), text[at:]); sum != store.Sum(before, text) {
				t.Errorf("Sum of %d and %q in two parts: %d", before, text, sum)
			}
		}
	}
}
