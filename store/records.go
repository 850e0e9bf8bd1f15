package store

import (
	"plaquette/api"
	"plaquette/torus"
)

// record is what was read of a text.
type record struct {
	sizes   [3]int
	entries []api.Entry
	sum     int   // to which the next line is linked
	starts  []int // where the line of each entry starts, and of one more, which is where what was read ends
}

// read reads the longest beginning of a text that is an archive; ErrSyntax if there is none.
func read(text string) (record, api.Errno) {
	line, behind, ended := cut([]byte(text))
	sizes, right := sizesIn(string(line))
	if !ended || !right {
		return record{}, api.ErrSyntax
	}
	r := record{sizes: sizes, sum: Sum(0, string(line)), starts: []int{len(line) + 1}}
	for len(r.entries) < api.MaxEntries {
		line, behind, ended = cut(behind)
		if !ended || !r.add(string(line)) {
			break
		}
	}
	return r, api.OK
}

// add adds the entry of the next line, if that is right.
func (r *record) add(line string) bool {
	x := entryIn(line)
	if _, e := claimed(r.sizes, x); e != api.OK || !isNext(r.entries, x) {
		return false
	}
	again, sum := linked(r.sum, x)
	if again != line {
		return false
	}
	r.entries, r.sum = append(r.entries, x), sum
	r.starts = append(r.starts, r.end()+len(line)+1)
	return true
}

// end returns where what was read ends.
func (r *record) end() int {
	return r.starts[len(r.starts)-1]
}

// isNext reports whether the step of an entry is above that of the last one.
func isNext(l []api.Entry, x api.Entry) bool {
	return len(l) == 0 || x.Step > l[len(l)-1].Step
}

// whole reads a text that is an archive to its end; ErrBroken if it is not.
func whole(text string) (record, api.Errno) {
	r, e := read(text)
	if e != api.OK {
		return record{}, e
	}
	if r.end() < len(text) {
		return record{}, api.ErrBroken
	}
	return r, api.OK
}

// Write: see P8.2.
func Write(sizes [3]int, l []api.Entry) (string, api.Errno) {
	if e := torus.ValidateSizes(sizes); e != api.OK {
		return "", e
	}
	if len(l) > api.MaxEntries {
		return "", api.ErrLarge
	}
	line := firstLine(sizes)
	sum := Sum(0, line)
	text := line + "\n"
	for number, x := range l {
		if e := Validate(sizes, x); e != api.OK {
			return "", e
		}
		if !isNext(l[:number], x) {
			return "", api.ErrState
		}
		line, sum = linked(sum, x)
		text += line + "\n"
	}
	return text, api.OK
}

// Read: see P8.2.
func Read(text string) (sizes [3]int, l []api.Entry, rest string, e api.Errno) {
	r, e := read(text)
	if e != api.OK {
		return [3]int{}, nil, "", e
	}
	return r.sizes, r.entries, text[r.end():], api.OK
}

// Repair: see P8.2.
func Repair(text string) (string, api.Errno) {
	r, e := read(text)
	if e != api.OK {
		return "", e
	}
	return text[:r.end()], api.OK
}

// Append: see P8.3.
func Append(text string, x api.Entry) (string, api.Errno) {
	r, e := whole(text)
	if e != api.OK {
		return "", e
	}
	if e := Validate(r.sizes, x); e != api.OK {
		return "", e
	}
	if !isNext(r.entries, x) {
		return "", api.ErrState
	}
	if len(r.entries) == api.MaxEntries {
		return "", api.ErrLarge
	}
	line, _ := linked(r.sum, x)
	return text + line + "\n", api.OK
}

// Verify: see P8.3.
func Verify(text string) (int, api.Errno) {
	r, e := read(text)
	if e != api.OK {
		return 0, e
	}
	for number, x := range r.entries {
		// Of an entry that was read only the Counts may be wrong.
		if e := Validate(r.sizes, x); e != api.OK {
			return number, e
		}
	}
	if r.end() < len(text) {
		return len(r.entries), api.ErrBroken
	}
	return len(r.entries), api.OK
}
