package store_test

import (
	"slices"
	"strconv"
	"strings"
	"testing"

	"plaquette/api"
	"plaquette/store"
)

// P8.2: archives are written as the document says, and read again.
func TestWriteAndRead(t *testing.T) {
	d := dice{21}
	for _, sizes := range validSizes() {
		for _, n := range []int{0, 1, 2, 7} {
			l := d.entries(t, sizes, n)
			before := slices.Clone(l)
			text, e := store.Write(sizes, l)
			if text != archive(sizes, l) || e != api.OK {
				t.Error("Write", sizes, l, text, e)
			}
			if !slices.Equal(before, l) {
				t.Error("the entries were changed", before, l)
			}
			reads(t, text, sizes, l, "")
			_, got, _, _ := store.Read(text)
			clear(got)
			reads(t, text, sizes, l, "")
		}
	}
}

// reads checks what is read of a text, and that it can be repaired.
func reads(t *testing.T, text string, sizes [3]int, l []api.Entry, rest string) {
	t.Helper()
	got, entries, behind, e := store.Read(text)
	if got != sizes || !slices.Equal(entries, l) || behind != rest || e != api.OK {
		t.Errorf("Read of %q: %v %v %q %v, want %d entries and the rest %q", text, got, entries, behind, e, len(l), rest)
	}
	if s, e := store.Repair(text); s != text[:len(text)-len(rest)] || e != api.OK {
		t.Errorf("Repair of %q: %q %v", text, s, e)
	}
}

// P8.2: an archive, written out.
func TestArchiveExample(t *testing.T) {
	l := []api.Entry{cold(0), {Step: 4, Seed: 77, Counts: [5]int{3, 0, 0, 0, 0}, Links: "ceg"}}
	first := store.Sum(store.Sum(0, "torus 1 1 1"), "0 1 0 0 0 0 3 aaa")
	second := store.Sum(first, "4 77 3 0 0 0 0 ceg")
	want := "torus 1 1 1\n" + strconv.Itoa(first) + " 0 1 0 0 0 0 3 aaa\n" + strconv.Itoa(second) + " 4 77 3 0 0 0 0 ceg\n"
	if text, e := store.Write(point, l); text != want || e != api.OK {
		t.Error("Write", text, e)
	}
	if text, e := store.Write([3]int{2, 3, 1}, nil); text != "torus 2 3 1\n" || e != api.OK {
		t.Error("Write", text, e)
	}
	reads(t, "torus 2 3 1\n", [3]int{2, 3, 1}, nil, "")
}

// P8.2: the errors of Write, in their order, and entries one by one.
func TestWriteErrors(t *testing.T) {
	for _, sizes := range badSizes() {
		for _, l := range [][]api.Entry{nil, {cold(0)}, {{}}, colds(61)} {
			text, e := store.Write(sizes, l)
			refused(t, "Write", e, api.ErrArg, text)
		}
	}
	for _, n := range []int{61, 62, 1000} {
		for _, l := range [][]api.Entry{colds(n), make([]api.Entry, n), slices.Repeat([]api.Entry{cold(3)}, n)} {
			text, e := store.Write(point, l)
			refused(t, "Write", e, api.ErrLarge, text)
		}
	}
	for _, c := range wrongEntries() {
		for _, l := range [][]api.Entry{{c.entry}, {cold(0), c.entry}, {cold(0), cold(1), c.entry, cold(1), {}}, {cold(api.MaxCount), c.entry}} {
			text, e := store.Write(point, l)
			refused(t, "Write", e, c.want, text)
		}
		// An entry that is right in itself comes first, with a step that is not above the one before.
		text, e := store.Write(point, []api.Entry{cold(1), cold(1), c.entry})
		refused(t, "Write", e, api.ErrState, text)
	}
	for _, steps := range [][]int{{1, 1}, {1, 0}, {0, 0}, {api.MaxCount, api.MaxCount}, {api.MaxCount, 0}, {0, 5, 5}, {0, 5, 4}, {0, 1, 2, 0}, {3, 2, 4}} {
		var l []api.Entry
		for _, step := range steps {
			l = append(l, cold(step))
		}
		text, e := store.Write(point, l)
		refused(t, "Write", e, api.ErrState, text)
	}
}

// P8.2: up to the limits of steps, seeds and entries.
func TestWriteAtItsLimits(t *testing.T) {
	last := api.Entry{Step: api.MaxCount, Seed: api.Prime - 1, Counts: [5]int{3, 0, 0, 0, 0}, Links: "ceg"}
	for _, l := range [][]api.Entry{colds(59), colds(60), {cold(0), last}, {cold(api.MaxCount - 1), last}, {last}, append(colds(59), last)} {
		text, e := store.Write(point, l)
		if text != archive(point, l) || e != api.OK {
			t.Error("Write", l, text, e)
		}
		reads(t, text, point, l, "")
	}
	d := dice{22}
	sizes := [3]int{4, 2, 2}
	l := d.entries(t, sizes, 60)
	l = append(l, entryOf(t, sizes, make([]int, 48), api.MaxCount, 1))
	text, e := store.Write(sizes, l[1:])
	if text != archive(sizes, l[1:]) || e != api.OK {
		t.Error("Write", text, e)
	}
	// The 61st line is right, but not read any more.
	text = archive(sizes, l)
	lines := linesOf(text)
	reads(t, text, sizes, l[:60], lines[61])
	reads(t, text+"x", sizes, l[:60], lines[61]+"x")
	reads(t, archive(point, colds(70)), point, colds(60), strings.Join(linesOf(archive(point, colds(70)))[61:], ""))
}

// P8.2, S8: each beginning of an archive that has its first line is read as a beginning of its entries, and made whole by the lines since then.
func TestBeginnings(t *testing.T) {
	d := dice{23}
	for _, sizes := range [][3]int{point, {2, 1, 2}, {4, 2, 2}} {
		l := d.entries(t, sizes, 5)
		text := archive(sizes, l)
		lines := linesOf(text)
		starts := []int{len(lines[0])}
		for n := range l {
			starts = append(starts, starts[n]+len(lines[n+1]))
		}
		for end := range len(text) + 1 {
			if end < starts[0] {
				sizes, l, rest, e := store.Read(text[:end])
				refused(t, "Read", e, api.ErrSyntax, sizes, l, rest)
				continue
			}
			n := 0
			for n < len(l) && starts[n+1] <= end {
				n++
			}
			reads(t, text[:end], sizes, l[:n], text[starts[n]:end])
			repaired, _ := store.Repair(text[:end])
			since, e := store.Since(text, n)
			if repaired+since != text || e != api.OK {
				t.Errorf("%q is not made whole by %q", repaired, since)
			}
		}
	}
}

// same checks that what is read of any text is what the reference reads, and returns how many entries these are, or -1.
func same(t *testing.T, text string) int {
	t.Helper()
	sizes, l, rest, is := readOf(text)
	if is {
		reads(t, text, sizes, l, rest)
		return len(l)
	}
	got, entries, behind, e := store.Read(text)
	refused(t, "Read", e, api.ErrSyntax, got, entries, behind)
	s, e := store.Repair(text)
	refused(t, "Repair", e, api.ErrSyntax, s)
	n, e := store.Verify(text)
	refused(t, "Verify", e, api.ErrSyntax, n)
	if t.Failed() {
		t.Fatalf("the text %q", text)
	}
	return -1
}

// P8.2, S7: whatever byte of an archive is altered, the entries before its line are read, and those alone.
func TestAlteredBytes(t *testing.T) {
	l := []api.Entry{cold(0), {Step: 4, Seed: 77, Counts: [5]int{3, 0, 0, 0, 0}, Links: "ceg"}, cold(5)}
	text := archive(point, l)
	for at := range len(text) {
		before := strings.Count(text[:at], "\n") - 1
		for b := range 256 {
			if text[at] == byte(b) {
				continue
			}
			altered := text[:at] + string([]byte{byte(b)}) + text[at+1:]
			n := same(t, altered)
			// In the first line there may be other sizes now, but no line is linked to them.
			if n != before && (before >= 0 || n != 0) {
				t.Errorf("Read of %q: %d entries, want %d", altered, n, before)
			}
		}
	}
}

// P8.2, S7: bytes that are left out, put in or exchanged, and lines that are.
func TestAlteredTexts(t *testing.T) {
	d := dice{24}
	sizes := [3]int{2, 1, 1}
	l := d.entries(t, sizes, 4)
	text := archive(sizes, l)
	for at := range len(text) {
		same(t, text[:at]+text[at+1:])
		for _, s := range []string{"\n", " ", "0", "1", "a", "-", "+", "\r", "\x00", "\xff", "é", text[at : at+1]} {
			same(t, text[:at]+s+text[at:])
		}
		if at > 0 {
			same(t, text[:at-1]+text[at:at+1]+text[at-1:at]+text[at+1:])
		}
	}
	lines := linesOf(text)[:5]
	for m := range lines {
		for n := range lines {
			other := slices.Clone(lines)
			other[m], other[n] = other[n], other[m]
			same(t, strings.Join(other, ""))
			same(t, strings.Join(slices.Insert(slices.Clone(lines), m, lines[n]), ""))
		}
		without := strings.Join(slices.Delete(slices.Clone(lines), m, m+1), "")
		if n := same(t, without); n != m-1 && m != 4 {
			t.Error("a line is missing:", without, n)
		}
	}
	for range 300 {
		same(t, d.bytes(d.below(20)))
		same(t, lines[0]+d.bytes(d.below(60)))
	}
	for _, rest := range []string{"x", "\n", "\n\n", " ", "0", "torus 2 1 1\n", text, "\x00", "\r\n"} {
		reads(t, text+rest, sizes, l, rest)
	}
}

// P8.2: first lines that are not right.
func TestFirstLines(t *testing.T) {
	for _, text := range []string{
		"", "\n", "torus", "torus\n", "torus 1 1 1", "torus 1 1\n", "torus 1 1 1 1\n", "torus 1 1 1 \n", " torus 1 1 1\n", "torus  1 1 1\n", "torus 1 1  1\n", "torus\t1 1 1\n",
		"torus 1 1 01\n", "torus +1 1 1\n", "torus 1 -1 -1\n", "torus 1 1 0\n", "torus 0 1 1\n", "torus 5 1 1\n", "torus 4 4 2\n", "torus 1 1 x\n", "torus 1 1 1.0\n", "torus 1 1 0x1\n", "torus 1 1 1_0\n",
		"Torus 1 1 1\n", "TORUS 1 1 1\n", "torus1 1 1\n", "tor 1 1 1\n", " 1 1 1\n", "1 1 1\n", "torus 1 1 1\r\n", "\ntorus 1 1 1\n", "torus 1 1 1\x00\n", "torus 1 1 1,\n", "\ufefftorus 1 1 1\n",
		"torus 1 1 18446744073709551617\n", "torus 4294967297 1 1\n", "torus 9223372036854775807 1 1\n", "torus 1 1 ١\n", "torus - 1 1\n", "torus\n1 1 1\n", strings.Repeat(" ", 1000) + "\n",
	} {
		if same(t, text) != -1 {
			t.Errorf("the reference should not read %q", text)
		}
		same(t, text+chained("torus 1 1 1", restOf(cold(0))))
		same(t, chained(strings.TrimSuffix(text, "\n"), restOf(cold(0))))
	}
	for x := range 10 {
		for y := range 10 {
			for z := range 10 {
				same(t, headOf([3]int{x, y, z})+"\n")
			}
		}
	}
}

// wrongRests returns what a line may have behind a right sum and still not be right, between the steps 3 and 5 on a torus with one site.
func wrongRests() []string {
	l := []string{
		"", " ", "4", "aaa", "4 1 0 0 0 0 3", "4 1 0 0 0 0 3 ", "4 1 0 0 0 0 3  aaa", "4 1 0 0 0 3 aaa", "4 1 0 0 0 0 0 3 aaa", "1 0 0 0 0 3 aaa", "4 1 0 0 0 0 3 aaa ", " 4 1 0 0 0 0 3 aaa", "4 1 0 0 0 0 3 aaa aaa", "4 1 0 0 0 0 3 aaa 0", "4 1 0 0 0 0 3 a aa",
		"4 1 0 0 0 0 3 aaa\r", "4\t1 0 0 0 0 3 aaa", "4 1 0 0 0 0 3\taaa", "4\u00a01 0 0 0 0 3 aaa", "4,1,0,0,0,0,3,aaa", "4 1 0 0 0 0 3 aaa\x00", "\x004 1 0 0 0 0 3 aaa",
		"4 1 0 0 0 0 3 aa", "4 1 0 0 0 0 3 aaaa", "4 1 0 0 0 0 3 aay", "4 1 0 0 0 0 3 aaA", "4 1 0 0 0 0 3 aa`", "4 1 0 0 0 0 3 aa\xff", "4 1 0 0 0 0 3 aé", "4 1 0 0 0 0 3 日", "4 1 0 0 0 0 3 aa0", "4 1 0 0 0 0 3 aaé",
		"3 1 0 0 0 0 3 aaa", "2 1 0 0 0 0 3 aaa", "0 1 0 0 0 0 3 aaa", "1000001 1 0 0 0 0 3 aaa", "4 0 0 0 0 0 3 aaa", "4 2147483647 0 0 0 0 3 aaa", "4 2147483648 0 0 0 0 3 aaa", "4294967300 1 0 0 0 0 3 aaa",
	}
	right := []string{"4", "1", "0", "0", "0", "0", "3"}
	for at := range right {
		for _, form := range []string{"+N", "-N", "0N", "00N", "N.", "N.0", "Ne0", "0xN", "0bN", "0oN", "_N", "N_", "N_0", "'N'", "N-", "--N", "(N)", "٠", "Nx", "", "18446744073709551616", "9223372036854775808", "-9223372036854775808", "49", "-1"} {
			if form == "49" && at < 2 {
				continue
			}
			words := slices.Clone(right)
			words[at] = strings.ReplaceAll(form, "N", words[at])
			l = append(l, strings.Join(words, " ")+" aaa")
		}
	}
	return l
}

// P8.2: lines that have a right sum but are otherwise wrong, with right ones before and behind.
func TestLinesWithRightSums(t *testing.T) {
	first, next := restOf(cold(3)), restOf(cold(5))
	if n := same(t, chained("torus 1 1 1", first, "4 1 0 0 0 0 3 aaa", next)); n != 3 {
		t.Error("right lines are not read", n)
	}
	for _, rest := range wrongRests() {
		for _, text := range []string{chained("torus 1 1 1", first, rest, next), chained("torus 1 1 1", first, rest)} {
			if n := same(t, text); n != 1 {
				t.Errorf("Read of %q: %d entries", text, n)
			}
		}
		same(t, chained("torus 1 1 1", rest, next))
		same(t, chained("torus 2 1 1", rest))
	}
}

// P8.2: sums that are not those of the line before and the rest, or are written in another way.
func TestWrongSums(t *testing.T) {
	head, first, second := "torus 1 1 1", restOf(cold(3)), restOf(cold(4))
	text := chained(head, first)
	before := sumOf(sumOf(0, head), first)
	right := sumOf(before, second)
	for _, sum := range []int{
		right + 1, right - 1, right + 1000003, right - 1000003, -right, 0, before, sumOf(0, second), sumOf(sumOf(0, head), second), sumOf(before, " "+second), sumOf(before, second+"\n"),
		sumOf(sumOf(sumOf(0, head+"\n"), first), second), sumOf(sumOf(0, text), second), sumOf(1, second), right + 1<<32, greatest, least,
	} {
		if n := same(t, text+strconv.Itoa(sum)+" "+second+"\n"); n != 1 {
			t.Error("a wrong sum is read:", sum)
		}
	}
	for _, form := range []string{"0N", "+N", "-N", "N ", " N", "N.0", "0xN", "", "N_", "18446744073709551616", "Nx", "N\t"} {
		if n := same(t, text+strings.ReplaceAll(form, "N", strconv.Itoa(right))+" "+second+"\n"); n != 1 {
			t.Error("a wrong sum is read:", form)
		}
	}
	if n := same(t, text+strconv.Itoa(right)+" "+second+"\n"); n != 2 {
		t.Error("a right sum is not read")
	}
}

// P8.2: sums that are as small and as great as can be are read like others.
func TestExtremeSums(t *testing.T) {
	before := sumOf(0, "torus 1 1 1")
	found := map[int]bool{}
	for seed := 1; seed < 3000000 && len(found) < 2; seed++ {
		x := cold(0)
		x.Seed = seed
		if sum := store.Sum(before, restOf(x)); sum < 10 && !found[0] || sum > 999999 && !found[1] {
			found[sum/999999] = true
			reads(t, archive(point, []api.Entry{x}), point, []api.Entry{x}, "")
		}
	}
	if len(found) < 2 {
		t.Error("there should be such seeds", found)
	}
}

// P8.2: a line whose Counts are not right is read, if they are within their limits.
func TestWrongCountsAreRead(t *testing.T) {
	for at := range 5 {
		for _, n := range []int{0, 1, 9, 10, 47, 48, 49, 50, 100} {
			x := cold(4)
			x.Counts[at] = n
			l := []api.Entry{cold(3), x, cold(5)}
			text := archive(point, l)
			if n > 48 {
				reads(t, text, point, l[:1], strings.Join(linesOf(text)[2:], ""))
			} else {
				reads(t, text, point, l, "")
			}
			same(t, text)
		}
	}
}
