package gather_test

import (
	"slices"
	"testing"

	"folkmoot/api"
	"folkmoot/gather"
	"folkmoot/quorum"
)

// said is what a replica says: nothing that is odd fits.
type said struct{ who, what int }

func who(s said) int { return s.who }

func isEven(s said) bool { return s.what%2 == 0 }

func TestEach(t *testing.T) {
	l := []said{{3, 1}, {2, 2}, {3, 4}, {0, 6}, {2, 8}, {1, 7}, {3, 0}}
	if got := gather.Each(l, who, isEven); !slices.Equal(got, []said{{0, 6}, {2, 2}, {3, 4}}) {
		t.Errorf("Each = %v", got)
	}
	if got := gather.Each(nil, who, isEven); len(got) != 0 {
		t.Errorf("Each of nothing = %v", got)
	}
}

func TestQuorum(t *testing.T) {
	c := quorum.Conf{F: 1}
	l := []said{{3, 2}, {1, 2}, {1, 4}, {0, 1}, {2, 6}, {0, 8}}
	if got, e := gather.Quorum(c, l, who, isEven); e != api.OK || !slices.Equal(got, []said{{0, 8}, {1, 2}, {2, 6}}) {
		t.Errorf("Quorum = %v, %v", got, e)
	}
	if got, e := gather.Quorum(c, l[:5], who, isEven); e != api.OK || len(got) != 3 {
		t.Errorf("Quorum of just enough = %v, %v", got, e)
	}
	if got, e := gather.Quorum(c, l[:4], who, isEven); e != api.ErrFew || len(got) != 0 {
		t.Errorf("Quorum of too few = %v, %v", got, e)
	}
	if got, e := gather.Quorum(quorum.Conf{F: -1}, l, who, isEven); e != api.ErrFew || len(got) != 0 {
		t.Errorf("Quorum without a size = %v, %v", got, e)
	}
	if got, e := gather.Quorum(quorum.Conf{}, l, who, isEven); e != api.OK || len(got) != 1 {
		t.Errorf("Quorum of one = %v, %v", got, e)
	}
}

func TestCheckQuorum(t *testing.T) {
	check := func(s said) api.Errno {
		if !isEven(s) {
			return api.ErrName
		}
		return api.OK
	}
	for i, c := range []struct {
		l    []said
		want api.Errno
	}{
		{[]said{{0, 2}, {1, 2}, {3, 2}}, api.OK},
		{[]said{{-5, 2}, {1, 2}, {3, 2}}, api.OK},
		{[]said{{0, 2}, {1, 2}}, api.ErrFew},
		{[]said{{1, 1}, {0, 2}, {2, 2}, {3, 2}}, api.ErrFew},
		{[]said{{0, 2}, {0, 2}, {1, 2}}, api.ErrOrder},
		{[]said{{0, 2}, {2, 2}, {1, 1}}, api.ErrOrder},
		{[]said{{1, 2}, {0, 2}, {2, 2}}, api.ErrOrder},
		{[]said{{0, 2}, {1, 1}, {1, 2}}, api.ErrName},
		{[]said{{0, 1}, {1, 2}, {2, 2}}, api.ErrName},
	} {
		if e := gather.CheckQuorum(quorum.Conf{F: 1}, c.l, who, check); e != c.want {
			t.Errorf("case %d: %v, want %v", i, e, c.want)
		}
	}
}
