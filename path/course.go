package path

import (
	"slices"

	"plaquette/api"
	"plaquette/torus"
)

// course is where a trajectory is: the links, as numbers of small units, and the momenta.
type course struct {
	sizes   [3]int
	links   []int
	momenta []api.Kick
	next    []neighbours // of each site
	small   *products
}

// neighbours has the sites to which the steps from a site lead: a step has the index step + directions.
type neighbours [2*directions + 1]int

// start returns the beginning of a trajectory, with memory of its own, or the error of field and momenta.
func start(f api.Field, p []api.Kick) (*course, api.Errno) {
	if e := Validate(f, p); e != api.OK {
		return nil, e
	}
	c, e := resting(f)
	if e != api.OK {
		return nil, e
	}
	c.momenta = slices.Clone(p)
	return c, api.OK
}

// resting returns a course without momenta: a force needs none.
func resting(f api.Field) (*course, api.Errno) {
	links, e := torus.Numbers(f)
	if e != api.OK {
		return nil, e
	}
	c := &course{sizes: f.Sizes, links: links, small: newProducts()}
	for site := range len(links) / directions {
		next, e := neighboursOf(f.Sizes, site)
		if e != api.OK {
			return nil, e
		}
		c.next = append(c.next, next)
	}
	return c, api.OK
}

func neighboursOf(sizes [3]int, site int) (neighbours, api.Errno) {
	var next neighbours
	for i := range next {
		step := i - directions
		if step == 0 {
			continue
		}
		to, e := torus.Next(sizes, site, step)
		if e != api.OK {
			return neighbours{}, e
		}
		next[i] = to
	}
	return next, api.OK
}

// end returns field and momenta.
func (c *course) end() (api.Field, []api.Kick, api.Errno) {
	f, e := torus.FromNumbers(c.sizes, c.links)
	if e != api.OK {
		return api.Field{}, nil, e
	}
	return f, c.momenta, api.OK
}

// part is what a step does. Its method does nothing: it keeps all other types from being parts.
type part interface {
	isPart()
}

// push adds the forces to the momenta.
type push struct{}

// drift turns the links by the momenta.
type drift struct{}

func (push) isPart()  {}
func (drift) isPart() {}

// do does parts of steps. A part takes the links one by one and yet all at once: a push needs no other momentum, and a drift no other link.
func (c *course) do(parts ...part) {
	for _, p := range parts {
		switch p.(type) {
		case push:
			for link := range c.momenta {
				for i, n := range c.force(link) {
					c.momenta[link][i] = turned(c.momenta[link][i] + n)
				}
			}
		case drift:
			for link, k := range c.momenta {
				c.links[link] = c.small.times(numberOf(turner(k)), c.links[link])
			}
		}
	}
}

func (c *course) step() {
	c.do(push{}, drift{}, push{})
}

// force returns the force on a link.
func (c *course) force(link int) [3]int {
	site, step := link/directions, link%directions+1
	var force [3]int
	for dir := range directions {
		if dir+1 == step {
			continue
		}
		for _, side := range [2]int{dir + 1, -dir - 1} {
			along := c.along(site, [4]int{step, side, -step, -side})
			for i, n := range c.small.twice(along) {
				force[i] += n
			}
		}
	}
	return force
}

// along returns the number of the unit along a path. The link of a step backward belongs to the site to which it leads.
func (c *course) along(site int, path [4]int) int {
	product := one
	for _, step := range path {
		to := c.next[site][step+directions]
		if step > 0 {
			product = c.small.times(product, c.links[directions*site+step-1])
		} else {
			product = c.small.times(product, c.small.inverses[c.links[directions*to-step-1]])
		}
		site = to
	}
	return product
}
