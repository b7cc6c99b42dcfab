// Package gather picks out of a list what different replicas say.
package gather

import (
	"maps"
	"slices"

	"folkmoot/api"
	"folkmoot/quorum"
)

// Each has, of the elements that fit, the first one of each replica, ascending by replica.
func Each[T any](l []T, who func(T) int, fits func(T) bool) []T {
	var fit []T
	for _, x := range l {
		if fits(x) {
			fit = append(fit, x)
		}
	}
	first := quorum.By(fit, who)
	r := make([]T, 0, len(first))
	for _, w := range slices.Sorted(maps.Keys(first)) {
		r = append(r, first[w])
	}
	return r
}

// Quorum has the first Q of Each, or ErrFew.
func Quorum[T any](c quorum.Conf, l []T, who func(T) int, fits func(T) bool) ([]T, api.Errno) {
	r := Each(l, who, fits)
	q := quorum.Q(c)
	if q < 1 || len(r) < q {
		return nil, api.ErrFew
	}
	return r[:q:q], api.OK
}

// CheckQuorum returns ErrFew unless l has exactly Q elements; then, for the first one that has
// an error: ErrOrder if its replica is not above that of the one before, or what check says.
func CheckQuorum[T any](c quorum.Conf, l []T, who func(T) int, check func(T) api.Errno) api.Errno {
	if len(l) != quorum.Q(c) {
		return api.ErrFew
	}
	for i, x := range l {
		if i > 0 && who(x) <= who(l[i-1]) {
			return api.ErrOrder
		}
		if e := check(x); e != api.OK {
			return e
		}
	}
	return api.OK
}
