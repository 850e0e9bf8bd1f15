package torus

import (
	"strconv"
	"strings"

	"plaquette/api"
	"plaquette/quat"
)

// Format: see P2.7.
func Format(f api.Field) (string, api.Errno) {
	if e := Validate(f); e != api.OK {
		return "", e
	}
	var text strings.Builder
	text.WriteString("torus")
	for _, size := range f.Sizes {
		text.WriteString(" " + strconv.Itoa(size))
	}
	text.WriteString("\n")
	for _, link := range f.Links {
		line, e := quat.Format(link)
		if e != api.OK {
			return "", e
		}
		text.WriteString(line + "\n")
	}
	return text.String(), api.OK
}

// Parse: see P2.7. It formats again what it has read, and so leaves it to Format which texts are the right ones.
func Parse(text string) (api.Field, api.Errno) {
	line, rest, _ := strings.Cut(text, "\n")
	sizes := sizesIn(line)
	if ValidateSizes(sizes) != api.OK {
		return api.Field{}, api.ErrSyntax
	}
	f := blank(sizes)
	for i := range f.Links {
		line, rest, _ = strings.Cut(rest, "\n")
		u, e := quat.Parse(line)
		if e != api.OK {
			return api.Field{}, api.ErrSyntax
		}
		f.Links[i] = u
	}
	if again, e := Format(f); e != api.OK || again != text {
		return api.Field{}, api.ErrSyntax
	}
	return f, api.OK
}

// sizesIn returns the sizes in the first line of a text. Of a word that is not an int strconv makes 0, or an int at the end of their range: neither is a size.
func sizesIn(line string) [3]int {
	var sizes [3]int
	_, rest, _ := strings.Cut(line, " ")
	for i := range sizes {
		var word string
		word, rest, _ = strings.Cut(rest, " ")
		sizes[i], _ = strconv.Atoi(word)
	}
	return sizes
}
