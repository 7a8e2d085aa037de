package admit

import (
	"cmp"
	"slices"

	"viaduct/api"
	"viaduct/ledger"
)

// family is all paths of a table that are kin of one another, in the order of keys; it has at least one.
type family []Entry

// families are those of a list in the order of keys.
func families(l []Entry) []family {
	var all []family
	for len(l) > 0 {
		first := l[0].Key
		n := slices.IndexFunc(l, func(x Entry) bool { return !Kin(x.Key, first) })
		if n < 0 {
			n = len(l)
		}
		all = append(all, l[:n])
		l = l[n:]
	}
	return all
}

// bandwidth is what the paths of a family share.
func (f family) bandwidth() uint64 {
	return slices.MaxFunc(f, func(a, b Entry) int { return cmp.Compare(a.Want.Bw, b.Want.Bw) }).Want.Bw
}

// priority is the highest one, thus the smallest number, at which a path of a family is held.
func (f family) priority() int {
	return slices.MinFunc(f, func(a, b Entry) int { return cmp.Compare(a.Want.Hold, b.Want.Hold) }).Want.Hold
}

// preemptible says whether a path may drive out a family.
func (f family) preemptible(by Entry) bool {
	return !Kin(f[0].Key, by.Key) && f.priority() > by.Want.Setup
}

// sooner is above 0 if a family is preempted sooner than another one, below 0 if later.
func sooner(f, other family) int {
	return cmp.Or(cmp.Compare(f.priority(), other.priority()), cmp.Compare(f.bandwidth(), other.bandwidth()), order(f[0].Key, other[0].Key))
}

// next is the index of the family that is preempted next for a path; -1: there is none.
func next(all []family, by Entry) int {
	best := -1
	for i, f := range all {
		if f.preemptible(by) && (best < 0 || sooner(f, all[best]) > 0) {
			best = i
		}
	}
	return best
}

// fits says whether a link of a size has enough for some families.
func fits(size uint64, all []family) bool {
	_, ok := book(size, all)
	return ok
}

// book is the ledger of a link of a size, of which some families hold their bandwidths; false: these are more than it has.
func book(size uint64, all []family) (ledger.Ledger, bool) {
	l := ledger.Ledger{Cap: size}
	for _, f := range all {
		more, e := ledger.Put(l, f.priority(), f.bandwidth())
		if e != api.OK {
			return ledger.Ledger{}, false
		}
		l = more
	}
	return l, true
}
