package smt

import (
	"attest/api"
	"attest/atom"
	"attest/clause"
)

// Tidy: the same problem in form.
func Tidy(p Problem) (Problem, api.Errno) {
	switch {
	case great(p):
		return Problem{}, api.ErrBig
	case !sound(p):
		return Problem{}, api.ErrForm
	}
	out := Problem{Reals: p.Reals, Bools: p.Bools}
	var fates []fate
	out.Atoms, fates = tidied(p.Atoms)
	for _, c := range p.Clauses {
		if lessened, open := lessen(c, p.Bools, fates); open {
			out.Clauses = append(out.Clauses, lessened)
		}
	}
	return out, api.OK
}

// fate is what becomes of a constraint: its place among the tidied ones, if it is open; else what it says.
type fate struct {
	says, place int
}

// tidied: the canonical forms of the constraints that are open, each once; and what has become of each constraint.
func tidied(list []atom.Atom) ([]atom.Atom, []fate) {
	var out []atom.Atom
	fates := make([]fate, len(list))
	for i, first := range atom.Places(list) {
		if first < i {
			fates[i] = fates[first]
			continue
		}
		canon, says, _ := atom.Canon(list[i])
		fates[i] = fate{says, len(out)}
		if says == atom.Open {
			out = append(out, canon)
		}
	}
	return out, fates
}

// lessen: the clause of what is left of its literals; false: it holds at all points, so that nothing need be said of it.
func lessen(c []int, bools int, fates []fate) ([]int, bool) {
	var left []int
	for _, l := range c {
		v := max(l, -l)
		if v > bools {
			f := fates[v-bools-1]
			if f.says != atom.Open {
				if (f.says == atom.True) == (l > 0) {
					return nil, false
				}
				continue
			}
			v = bools + 1 + f.place
		}
		if l < 0 {
			v = -v
		}
		left = append(left, v)
	}
	canon, _ := clause.Canon(left)
	always, _ := clause.Always(canon)
	return canon, !always
}
