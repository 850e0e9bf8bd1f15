package gauge

import "plaquette/api"

// quaternion has the coordinates of 1, i, j and k; it need not have the length 1.
type quaternion [4]int

// doubled returns twice a small unit: so all its coordinates are integers.
func doubled(u api.Unit) quaternion {
	k := 2 / u.N
	return quaternion{k * u.A, k * u.B, k * u.C, k * u.D}
}

func (q quaternion) times(p quaternion) quaternion {
	return quaternion{
		q[0]*p[0] - q[1]*p[1] - q[2]*p[2] - q[3]*p[3],
		q[0]*p[1] + q[1]*p[0] + q[2]*p[3] - q[3]*p[2],
		q[0]*p[2] - q[1]*p[3] + q[2]*p[0] + q[3]*p[1],
		q[0]*p[3] + q[1]*p[2] - q[2]*p[1] + q[3]*p[0],
	}
}

// lowest returns the quaternion divided by the greatest number that divides its coordinates; one of them is not 0.
func (q quaternion) lowest() quaternion {
	g := 0
	for _, n := range q {
		for n != 0 {
			g, n = n, g%n
		}
	}
	for i := range q {
		q[i] /= g
	}
	return q
}

// coordinates returns 1, i, j and k.
func coordinates() []quaternion {
	return []quaternion{{1, 0, 0, 0}, {0, 1, 0, 0}, {0, 0, 1, 0}, {0, 0, 0, 1}}
}

// equation has the factors of the coordinates in a sum that must be 0.
type equation [4]int

// at returns the sum for a quaternion: 0 if the equation holds.
func (eq equation) at(q quaternion) int {
	return eq[0]*q[0] + eq[1]*q[1] + eq[2]*q[2] + eq[3]*q[3]
}

// carrying returns the equations for q * a = b * q: one for each coordinate of the products.
func carrying(a, b quaternion) [4]equation {
	var four [4]equation
	for i, q := range coordinates() {
		left, right := q.times(a), b.times(q)
		for k := range four {
			four[k][i] = left[k] - right[k]
		}
	}
	return four
}

// solutions returns a basis of the quaternions for which all equations hold.
func solutions(equations []equation) []quaternion {
	basis := coordinates()
solving:
	for _, eq := range equations {
		for i, q := range basis {
			if eq.at(q) != 0 {
				basis = narrowed(basis, i, eq)
				continue solving
			}
		}
	}
	return basis
}

// narrowed returns a basis of those combinations for which an equation holds, too. It does not hold for the quaternion with the number i: so much of this one is taken from each other one that the equation holds there.
//
// No int overflows: the factors of an equation are at most 4, and after four quaternions are narrowed away none is left.
func narrowed(basis []quaternion, i int, eq equation) []quaternion {
	wrong := basis[i]
	var rest []quaternion
	for k, q := range basis {
		if k == i {
			continue
		}
		sum := quaternion{}
		for n := range sum {
			sum[n] = eq.at(wrong)*q[n] - eq.at(q)*wrong[n]
		}
		rest = append(rest, sum.lowest())
	}
	return rest
}
