package gauge

import (
	"slices"

	"plaquette/api"
	"plaquette/quat"
	"plaquette/torus"
)

// Tree: see P4.2.
func Tree(sizes [3]int) ([]int, api.Errno) {
	sites, e := torus.Sites(sizes)
	if e != api.OK {
		return nil, e
	}
	var links []int
	reached := []int{0}
	look := func(link int) api.Errno {
		_, to, e := ends(sizes, link)
		if e != api.OK {
			return e
		}
		if !slices.Contains(reached, to) {
			reached = append(reached, to)
			links = append(links, link)
		}
		return api.OK
	}
	// Each site is reached in the end, so that there is always a next one to look from.
	for i := range sites {
		for dir := range directions {
			if e := look(directions*reached[i] + dir); e != api.OK {
				return nil, e
			}
		}
	}
	return links, api.OK
}

// Branches: see P4.2.
func Branches(f api.Field) ([]api.Unit, api.Errno) {
	if e := checkSmall(f); e != api.OK {
		return nil, e
	}
	tree, e := Tree(f.Sizes)
	if e != api.OK {
		return nil, e
	}
	branches, e := Identity(f.Sizes)
	if e != api.OK {
		return nil, e
	}
	// In the order of the tree the branch from which a link leads is always there before it.
	for _, link := range tree {
		from, to, e := ends(f.Sizes, link)
		if e != api.OK {
			return nil, e
		}
		if branches[to], e = quat.Mul(branches[from], f.Links[link]); e != api.OK {
			return nil, e
		}
	}
	return branches, api.OK
}

// Fix: see P4.2.
func Fix(f api.Field) (api.Field, api.Errno) {
	branches, e := Branches(f)
	if e != api.OK {
		return api.Field{}, e
	}
	return Transform(f, branches)
}

// Loops: see P4.2. The loop of a link is that link of the field transformed by the branches.
func Loops(f api.Field) ([]api.Unit, api.Errno) {
	fixed, e := Fix(f)
	if e != api.OK {
		return nil, e
	}
	tree, e := Tree(f.Sizes)
	if e != api.OK {
		return nil, e
	}
	loops := make([]api.Unit, 0, len(fixed.Links)-len(tree))
	for number, link := range fixed.Links {
		if !slices.Contains(tree, number) {
			loops = append(loops, link)
		}
	}
	return loops, api.OK
}
