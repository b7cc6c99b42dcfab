package node

import (
	"maps"
	"slices"

	"folkmoot/block"
	"folkmoot/cut"
	"folkmoot/hash"
	"folkmoot/key"
	"folkmoot/memo"
	"folkmoot/pace"
)

// live is what a replica has in hand while it is up.
type live struct {
	state *memo.State
	key   *key.Key
	pace  *pace.Pace
	led   int // the latest view that was led
	lead  lead
	votes kept[ballot, block.Vote]
	views kept[int, pace.NewView]
}

// lead is the view that is led now, if on.
type lead struct {
	on      bool
	sent    bool // whether the Close was sent, with lo and hi
	view    int
	high    block.QC
	lo, hi  int64
	reports []cut.Report
}

// ballot is what votes are for.
type ballot struct {
	view  int
	block hash.Digest
}

// twin copies the lists of what was heard flatly: they are never written to.
func (l *live) twin() *live {
	t := *l
	t.state, t.key, t.pace = l.state.Twin(), l.key.Twin(), l.pace.Twin()
	t.votes, t.views = l.votes.twin(), l.views.twin()
	return &t
}

// kept has for each name what different replicas said.
type kept[K comparable, T any] struct{ lists map[K][]T }

func (k *kept[K, T]) add(name K, x T, who func(T) int) ([]T, bool) {
	l, isNew := heard(k.lists[name], x, who)
	if k.lists == nil {
		k.lists = map[K][]T{}
	}
	k.lists[name] = l
	return l, isNew
}

func (k *kept[K, T]) twin() kept[K, T] { return kept[K, T]{lists: maps.Clone(k.lists)} }

// heard adds x, unless its replica has said something already. It never writes into the
// memory of l, which twins share.
func heard[T any](l []T, x T, who func(T) int) ([]T, bool) {
	if slices.ContainsFunc(l, func(y T) bool { return who(y) == who(x) }) {
		return l, false
	}
	return append(slices.Clip(l), x), true
}
