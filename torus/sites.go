package torus

import (
	"iter"

	"plaquette/api"
)

// places goes through the sites in the order of their numbers: each with its place.
func places(sizes [3]int) iter.Seq2[int, [3]int] {
	return func(yield func(int, [3]int) bool) {
		for site := range count(sizes) {
			if !yield(site, placeOf(sizes, site)) {
				return
			}
		}
	}
}

func placeOf(sizes [3]int, site int) [3]int {
	var place [3]int
	for i, size := range sizes {
		place[i] = site % size
		site /= size
	}
	return place
}

// siteAt returns the site with a place, whose numbers may be any.
func siteAt(sizes, place [3]int) int {
	x, y, z := modulo(place[0], sizes[0]), modulo(place[1], sizes[1]), modulo(place[2], sizes[2])
	return x + sizes[0]*(y+sizes[1]*z)
}

// modulo corrects the sign of Go's remainder, which is that of a.
func modulo(a, n int) int {
	r := a % n
	if r < 0 {
		return r + n
	}
	return r
}

// Sites: see P2.2.
func Sites(sizes [3]int) (int, api.Errno) {
	if e := ValidateSizes(sizes); e != api.OK {
		return 0, e
	}
	return count(sizes), api.OK
}

// Site: see P2.2.
func Site(sizes [3]int, x, y, z int) (int, api.Errno) {
	if e := ValidateSizes(sizes); e != api.OK {
		return 0, e
	}
	return siteAt(sizes, [3]int{x, y, z}), api.OK
}

// Place: see P2.2.
func Place(sizes [3]int, site int) ([3]int, api.Errno) {
	if e := checkSite(sizes, site); e != api.OK {
		return [3]int{}, e
	}
	return placeOf(sizes, site), api.OK
}

// Next: see P2.2.
func Next(sizes [3]int, site, step int) (int, api.Errno) {
	if e := checkSite(sizes, site); e != api.OK {
		return 0, e
	}
	if !isStep(step) {
		return 0, api.ErrArg
	}
	return next(sizes, site, step), api.OK
}

func next(sizes [3]int, site, step int) int {
	place := placeOf(sizes, site)
	if step > 0 {
		place[step-1]++
	} else {
		place[-step-1]--
	}
	return siteAt(sizes, place)
}

// Walk: see P2.2.
func Walk(sizes [3]int, site int, path []int) ([]int, api.Errno) {
	if e := checkWalk(sizes, site, path); e != api.OK {
		return nil, e
	}
	return walk(sizes, site, path), api.OK
}

func walk(sizes [3]int, site int, path []int) []int {
	sites := []int{site}
	for _, step := range path {
		site = next(sizes, site, step)
		sites = append(sites, site)
	}
	return sites
}

// IsClosed: see P2.2.
func IsClosed(sizes [3]int, site int, path []int) (bool, api.Errno) {
	sites, e := Walk(sizes, site, path)
	if e != api.OK {
		return false, e
	}
	return sites[len(path)] == site, api.OK
}
