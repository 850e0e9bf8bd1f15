package torus_test

import (
	"fmt"
	"regexp"
	"strings"
	"testing"

	"plaquette/api"
	"plaquette/torus"
)

// written is Format.
func written(f api.Field) string {
	text := fmt.Sprintf("torus %d %d %d\n", f.Sizes[0], f.Sizes[1], f.Sizes[2])
	for _, link := range f.Links {
		text += fmt.Sprintf("%d %d %d %d %d\n", link.A, link.B, link.C, link.D, link.N)
	}
	return text
}

var shape = regexp.MustCompile(`^torus [1-4] [1-4] [1-4]\n((0|-?[1-9][0-9]{0,3}) (0|-?[1-9][0-9]{0,3}) (0|-?[1-9][0-9]{0,3}) (0|-?[1-9][0-9]{0,3}) [1-5]\n)*$`)

// read is Parse, for texts without large numbers.
func read(text string) (api.Field, bool) {
	if !shape.MatchString(text) {
		return api.Field{}, false
	}
	var f api.Field
	lines := strings.Split(strings.TrimSuffix(text, "\n"), "\n")
	fmt.Sscanf(lines[0], "torus %d %d %d", &f.Sizes[0], &f.Sizes[1], &f.Sizes[2])
	for _, line := range lines[1:] {
		var link api.Unit
		fmt.Sscan(line, &link.A, &link.B, &link.C, &link.D, &link.N)
		f.Links = append(f.Links, link)
	}
	return f, torus.Validate(f) == api.OK
}

// checkParse holds Parse against read.
func checkParse(t *testing.T, text string) {
	t.Helper()
	f, e := torus.Parse(text)
	want, is := read(text)
	if !is {
		refused(t, fmt.Sprintf("Parse %q", text), f, e, api.ErrSyntax)
	} else if !equal(f, want) || e != api.OK {
		t.Errorf("Parse %q: %v %v", text, f, e)
	}
}

// P2.7
func TestFormat(t *testing.T) {
	d := dice{11}
	for _, f := range append(someFields(), d.small([3]int{2, 2, 2}), d.small([3]int{1, 1, 1})) {
		check := untouched(t, f)
		text, e := torus.Format(f)
		if text != written(f) || e != api.OK {
			t.Errorf("Format %v: %q %v", f, text, e)
		}
		g, e := torus.Parse(text)
		if !equal(f, g) || e != api.OK {
			t.Errorf("Parse %q: %v %v", text, g, e)
		}
		scribble(g)
		check()
	}
	f := api.Field{Sizes: [3]int{1, 1, 1}, Links: []api.Unit{one, u(3, 0, -4, 0, 5), u(-1, 1, 1, -1, 2)}}
	if text, e := torus.Format(f); text != "torus 1 1 1\n1 0 0 0 1\n3 0 -4 0 5\n-1 1 1 -1 2\n" || e != api.OK {
		t.Errorf("Format %v: %q %v", f, text, e)
	}
}

// P2.7: each text that differs in one byte.
func TestParseWithOneByteChanged(t *testing.T) {
	f := api.Field{Sizes: [3]int{1, 1, 1}, Links: []api.Unit{one, u(3, 0, -4, 0, 5), u(-1, 1, 1, -1, 2)}}
	text := written(f)
	for at := range len(text) + 1 {
		if at < len(text) {
			checkParse(t, text[:at]+text[at+1:])
		}
		for b := range 256 {
			checkParse(t, text[:at]+string([]byte{byte(b)})+text[at:])
			if at < len(text) {
				checkParse(t, text[:at]+string([]byte{byte(b)})+text[at+1:])
			}
		}
	}
}

// P2.7: a text that has lost its end or its beginning.
func TestParseOfParts(t *testing.T) {
	for _, f := range someFields() {
		text := written(f)
		for at := range text {
			checkParse(t, text[:at])
			checkParse(t, text[at:])
		}
		for _, other := range someFields() {
			checkParse(t, text+written(other))
			checkParse(t, fmt.Sprintf("torus %d %d %d\n", other.Sizes[0], other.Sizes[1], other.Sizes[2])+text[len("torus 1 1 1\n"):])
		}
	}
}

// P2.7
func TestParseRefuses(t *testing.T) {
	const links = "\n1 0 0 0 1\n0 1 0 0 1\n0 0 1 0 1\n"
	if _, e := torus.Parse("torus 1 1 1" + links); e != api.OK {
		t.Error(e)
	}
	for _, head := range []string{
		"", " ", "torus", "torus ", "torus 1", "torus 1 1", "torus 1 1 ", "torus 1 1 1 ", "torus 1 1 1 1", "torus  1 1 1", "torus 1  1 1",
		" torus 1 1 1", "Torus 1 1 1", "TORUS 1 1 1", "tori 1 1 1", "1 1 1", " 1 1 1", "torus1 1 1", "torus\t1 1 1", "torus 1 1 1\r",
		"torus +1 1 1", "torus 01 1 1", "torus 1 1 0x1", "torus 1 1 1.0", "torus 1 1 one", "torus 1,1,1", "torus 1 1 -1", "torus 1 1 0",
		"torus 5 1 1", "torus 1 1 2", "torus 4 4 2", "torus 1 1 18446744073709551617", "torus 1 1 4294967297", "torus 1 1 99999999999999999999999",
		"torus -1 -1 1", "torus 1 1 1\n", "\ntorus 1 1 1", "torus 1 1 1\n1 0 0 0 1", strings.Repeat("torus 1 1 1 ", 1000), strings.Repeat("1", 1000),
	} {
		f, e := torus.Parse(head + links)
		refused(t, fmt.Sprintf("Parse %q", head), f, e, api.ErrSyntax)
	}
	for _, line := range []string{
		"", " ", "1", "1 0 0 0", "1 0 0 0 1 ", " 1 0 0 0 1", "1 0 0 0 1\r", "+1 0 0 0 1", "1 -0 0 0 1", "01 0 0 0 1", "1 1 0 0 1", "2 0 0 0 2",
		"1 5 3 1 6", "2 4 5 2 7", "6 8 0 0 10", "1 0 0 0 0", "-1 0 0 0 -1", "18446744073709551617 0 0 0 1", "1 0 0 0 1\n1 0 0 0 1", "1 0 0 0 1\n",
	} {
		for _, text := range []string{
			"torus 1 1 1\n" + line + "\n1 0 0 0 1\n1 0 0 0 1\n",
			"torus 1 1 1\n1 0 0 0 1\n" + line + "\n1 0 0 0 1\n",
			"torus 1 1 1\n1 0 0 0 1\n1 0 0 0 1\n" + line + "\n",
		} {
			f, e := torus.Parse(text)
			refused(t, fmt.Sprintf("Parse %q", text), f, e, api.ErrSyntax)
		}
	}
}
