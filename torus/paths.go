package torus

import "plaquette/api"

// Back: see P2.3.
func Back(path []int) ([]int, api.Errno) {
	if e := checkPath(path); e != api.OK {
		return nil, e
	}
	back := make([]int, len(path))
	for i, step := range path {
		back[len(path)-1-i] = -step
	}
	return back, api.OK
}

// Reduce: see P2.3. No order of leaving out is better than another, so each step is held only against the last one that is still there.
func Reduce(path []int) ([]int, api.Errno) {
	if e := checkPath(path); e != api.OK {
		return nil, e
	}
	reduced := make([]int, 0, len(path))
	for _, step := range path {
		last := len(reduced) - 1
		if last >= 0 && reduced[last] == -step {
			reduced = reduced[:last]
		} else {
			reduced = append(reduced, step)
		}
	}
	return reduced, api.OK
}
