package quorum_test

import (
	"math"
	"slices"
	"testing"

	"folkmoot/api"
	"folkmoot/quorum"
)

func TestCheckAndSizes(t *testing.T) {
	for f, want := range map[int]api.Errno{
		math.MinInt: api.ErrArg, -1: api.ErrArg, 0: api.ErrArg, 1: api.OK, 2: api.OK, 3: api.OK, 4: api.ErrArg, math.MaxInt: api.ErrArg,
	} {
		if e := quorum.Check(quorum.Conf{F: f}); e != want {
			t.Errorf("P601: Check(%d) = %v", f, e)
		}
	}
	for f, want := range map[int][2]int{1: {4, 3}, 2: {7, 5}, 3: {10, 7}} {
		c := quorum.Conf{F: f}
		if n, q := quorum.N(c), quorum.Q(c); n != want[0] || q != want[1] {
			t.Errorf("P601: F %d: N %d, Q %d", f, n, q)
		}
	}
}

func TestDistinct(t *testing.T) {
	l := []int{3, 1, 3, -2, 1, 1, 0}
	if got := quorum.Distinct(l); !slices.Equal(got, []int{-2, 0, 1, 3}) {
		t.Errorf("P601: Distinct = %v", got)
	}
	if !slices.Equal(l, []int{3, 1, 3, -2, 1, 1, 0}) {
		t.Error("P2: Distinct changed its argument")
	}
	if got := quorum.Distinct(nil); len(got) != 0 {
		t.Errorf("P601: Distinct of nothing = %v", got)
	}
	one := []int{1, 2}
	quorum.Distinct(one)[0] = 9
	if one[0] != 1 {
		t.Error("P2: Distinct shares memory with its argument")
	}
}

func TestEnough(t *testing.T) {
	for _, c := range []struct {
		f    int
		l    []int
		want bool
	}{
		{1, []int{0, 1, 2}, true},
		{1, []int{3, 1, 0, 1}, true},
		{1, []int{0, 1, 2, 3}, true},
		{1, []int{0, 0, 1}, false},
		{1, []int{4, 1, 0}, false},
		{1, []int{-1, 1, 0}, false},
		{1, []int{-1, 4, 3, 1, 0}, true},
		{1, nil, false},
		{2, []int{6, 5, 4, 3}, false},
		{2, []int{6, 5, 4, 3, 7}, false},
		{2, []int{6, 5, 4, 3, 0}, true},
		{3, []int{9, 8, 7, 6, 5, 4}, false},
		{3, []int{9, 8, 7, 6, 5, 4, 4, 3}, true},
	} {
		if got := quorum.Enough(quorum.Conf{F: c.f}, c.l); got != c.want {
			t.Errorf("P601: Enough(%d, %v) = %v", c.f, c.l, got)
		}
	}
}

func TestCommon(t *testing.T) {
	for _, c := range [][3][]int{
		{{3, 1, 2}, {2, 3, 4}, {2, 3}},
		{{5, 5, -1, 5}, {-1, 5, 5, -1}, {-1, 5}},
		{{1}, {2}, nil},
		{nil, {1}, nil},
		{{1}, nil, nil},
	} {
		if got := quorum.Common(c[0], c[1]); !slices.Equal(got, c[2]) {
			t.Errorf("P601: Common(%v, %v) = %v", c[0], c[1], got)
		}
	}
}

func TestCommonOfQuorums(t *testing.T) {
	c := quorum.Conf{F: 1}
	lists := [][]int{{0, 1, 2}, {1, 2, 3}, {0, 2, 3}, {0, 1, 3}, {3, 2, 1, 0}, {0, 0, 1, 3, 9}}
	for _, a := range lists {
		for _, b := range lists {
			both := slices.DeleteFunc(quorum.Common(a, b), func(x int) bool { return x < 0 || x >= quorum.N(c) })
			if len(both) < c.F+1 {
				t.Errorf("P602: %v and %v have only %v in common", a, b, both)
			}
		}
	}
	for f := 1; f <= api.MaxF; f++ {
		c := quorum.Conf{F: f}
		var a, b []int
		for i := range quorum.Q(c) {
			a, b = append(a, i), append(b, quorum.N(c)-1-i)
		}
		if got := quorum.Common(a, b); len(got) < f+1 || !quorum.Enough(c, a) || !quorum.Enough(c, b) {
			t.Errorf("P602: F %d: %v", f, got)
		}
	}
}

func TestBy(t *testing.T) {
	l := []string{"aa", "b", "cc", "", "d"}
	got := quorum.By(l, func(s string) int { return len(s) })
	if len(got) != 3 || got[2] != "aa" || got[1] != "b" || got[0] != "" {
		t.Errorf("P601: By = %v", got)
	}
	if got := quorum.By(nil, func(n int) int { return n }); len(got) != 0 {
		t.Errorf("P601: By of nothing = %v", got)
	}
}
