package pace_test

import (
	"math"
	"testing"

	"folkmoot/api"
	"folkmoot/block"
	"folkmoot/hash"
	"folkmoot/key"
	"folkmoot/pace"
	"folkmoot/quorum"
	"folkmoot/sample"
	"folkmoot/stamp"
)

func TestLeader(t *testing.T) {
	for _, c := range [][3]int{
		{1, 0, 0}, {1, 1, 1}, {1, 3, 3}, {1, 4, 0}, {1, 7, 3}, {1, -1, 0}, {1, math.MinInt, 0},
		{2, 7, 0}, {2, 13, 6}, {3, 9, 9}, {3, 10, 0}, {3, api.MaxView, api.MaxView % 10},
	} {
		if got := pace.Leader(quorum.Conf{F: c[0]}, c[1]); got != c[2] {
			t.Errorf("P1901: Leader(%d, %d) = %d", c[0], c[1], got)
		}
	}
	for _, f := range []int{0x5555555555555555, -1, math.MinInt, math.MaxInt} {
		pace.Leader(quorum.Conf{F: f}, 5)
	}
}

func TestWords(t *testing.T) {
	v := pace.NewView{View: 5, Who: 2, High: block.QC{View: 4, Block: 77, Votes: make([]block.Vote, 3)}}
	const want = "|view|5|2|4|000000000000004d"
	if got := pace.Words(v); got != want {
		t.Errorf("P1901: Words = %q", got)
	}
	if got := pace.Digest(v); got != hash.Of("view", want) {
		t.Errorf("P1901: Digest = %x", got)
	}
}

func TestMake(t *testing.T) {
	s := sample.New(1, 3)
	high := s.QC(s.Block(1, block.Genesis(), 10))
	v, e := pace.Make(s.Key[3], 3, 2, high)
	if e != api.OK || v.View != 2 || v.Who != 3 || v.High.Block != high.Block || len(v.High.Votes) != 3 || pace.Valid(s.Keys, v) != api.OK {
		t.Errorf("P1901: Make = %v, %v", v, e)
	}
	v.High.Votes[0].Sig.Path[0]++
	if block.ValidQC(s.Keys, high) != api.OK {
		t.Error("P2: the NewView shares memory with its QC")
	}
	s.Key[3].Skip(8)
	if v, e := pace.Make(s.Key[3], 3, 2, high); e != api.ErrSpent || v.View != 0 || v.Who != 0 || v.High.View != 0 || !key.Same(v.Sig, key.Sig{}) {
		t.Errorf("P1901: Make with a spent key = %v, %v", v, e)
	}
}

func TestValid(t *testing.T) {
	s := sample.New(1, 6)
	high := s.QC(s.Block(4, block.Genesis(), 10))
	few := high
	few.Votes = high.Votes[1:]
	good := s.NewView(2, 5, high)
	short := s.Keys
	short.Roots = short.Roots[:2]
	for i, c := range []struct {
		k    stamp.Keys
		v    func() pace.NewView
		want api.Errno
	}{
		{s.Keys, func() pace.NewView { return good }, api.OK},
		{s.Keys, func() pace.NewView { return s.NewView(0, 1, block.QC{}) }, api.OK},
		{s.Keys, func() pace.NewView { return s.NewView(3, api.MaxView, high) }, api.OK},
		{s.Keys, func() pace.NewView { return s.NewView(3, api.MaxView+1, high) }, api.ErrArg},
		{s.Keys, func() pace.NewView { return s.NewView(3, 0, block.QC{}) }, api.ErrArg},
		{s.Keys, func() pace.NewView { return s.NewView(3, -1, block.QC{}) }, api.ErrArg},
		{s.Keys, func() pace.NewView { v := good; v.Who = 4; return v }, api.ErrArg},
		{s.Keys, func() pace.NewView { v := good; v.Who = -1; return v }, api.ErrArg},
		{s.Keys, func() pace.NewView { v := good; v.Who = 1; return v }, api.ErrSig},
		{s.Keys, func() pace.NewView { v := good; v.Sig.Who = 1; return v }, api.ErrSig},
		{s.Keys, func() pace.NewView { v := good; v.View = 6; return v }, api.ErrSig},
		{s.Keys, func() pace.NewView { v := good; v.High = block.QC{}; return v }, api.ErrSig},
		{s.Keys, func() pace.NewView { v := good; v.High.Votes = nil; return v }, api.ErrFew},
		{short, func() pace.NewView { return good }, api.ErrSig},
		{s.Keys, func() pace.NewView { return s.NewView(2, 5, few) }, api.ErrFew},
		{s.Keys, func() pace.NewView { return s.NewView(2, 4, few) }, api.ErrFew},
		{s.Keys, func() pace.NewView { return s.NewView(2, 5, block.QC{Block: 1}) }, api.ErrArg},
		{s.Keys, func() pace.NewView { return s.NewView(2, 4, high) }, api.ErrView},
		{s.Keys, func() pace.NewView { return s.NewView(2, 3, high) }, api.ErrView},
	} {
		if e := pace.Valid(c.k, c.v()); e != c.want {
			t.Errorf("P1901: case %d: %v, want %v", i, e, c.want)
		}
	}
}

func TestBest(t *testing.T) {
	s := sample.New(1, 7)
	a := s.Block(1, block.Genesis(), 10)
	b := s.Block(3, a, 20)
	qa, qb := s.QC(a), s.QC(b)
	twin := s.QC(s.Block(3, block.Genesis(), 30))
	none := block.QC{}
	broken := s.NewView(1, 5, qb)
	broken.Sig.One[0]++
	for i, c := range []struct {
		l    []pace.NewView
		want block.QC
		e    api.Errno
	}{
		{nil, none, api.ErrFew},
		{[]pace.NewView{s.NewView(0, 5, qa), s.NewView(1, 5, qb)}, none, api.ErrFew},
		{[]pace.NewView{s.NewView(0, 5, qa), s.NewView(1, 5, qb), s.NewView(1, 5, qb), s.NewView(0, 5, qa)}, none, api.ErrFew},
		{[]pace.NewView{s.NewView(0, 5, qa), broken, s.NewView(2, 5, none)}, none, api.ErrFew},
		{[]pace.NewView{s.NewView(0, 5, qa), s.NewView(1, 6, qb), s.NewView(2, 5, none)}, none, api.ErrFew},
		{[]pace.NewView{s.NewView(0, 5, qa), s.NewView(1, 5, qb), s.NewView(2, 5, none)}, qb, api.OK},
		{[]pace.NewView{s.NewView(0, 5, none), s.NewView(1, 5, none), s.NewView(2, 5, none)}, none, api.OK},
		{[]pace.NewView{s.NewView(0, 5, qa), s.NewView(1, 5, none), s.NewView(2, 5, none), s.NewView(3, 5, qb)}, qb, api.OK},
		{[]pace.NewView{s.NewView(0, 5, qa), s.NewView(1, 5, none), s.NewView(1, 5, qb), s.NewView(2, 5, none)}, qa, api.OK},
		{[]pace.NewView{s.NewView(3, 5, twin), s.NewView(1, 5, qb), s.NewView(0, 5, qa)}, qb, api.OK},
		{[]pace.NewView{s.NewView(3, 5, qb), s.NewView(1, 5, twin), s.NewView(0, 5, qa)}, twin, api.OK},
		{[]pace.NewView{broken, s.NewView(1, 5, qa), s.NewView(0, 5, none), s.NewView(2, 5, none)}, qa, api.OK},
	} {
		got, e := pace.Best(s.Keys, 5, c.l)
		if e != c.e || got.View != c.want.View || got.Block != c.want.Block || len(got.Votes) != len(c.want.Votes) {
			t.Errorf("P1901: case %d: %v, %v", i, got, e)
		}
	}
	l := []pace.NewView{s.NewView(0, 5, qa), s.NewView(1, 5, qb), s.NewView(2, 5, none)}
	got, _ := pace.Best(s.Keys, 5, l)
	got.Votes[0].Sig.Path[0]++
	if block.ValidQC(s.Keys, qb) != api.OK {
		t.Error("P2: the best QC shares memory with the list")
	}
}

func made(t *testing.T, wait int) *pace.Pace {
	t.Helper()
	p, e := pace.New(wait)
	if e != api.OK || p.View() != 1 {
		t.Fatalf("P1901: New(%d) = %v", wait, e)
	}
	return p
}

func TestNew(t *testing.T) {
	for _, wait := range []int{0, -1, 1001, math.MaxInt, math.MinInt} {
		if p, e := pace.New(wait); p != nil || e != api.ErrArg {
			t.Errorf("P1901: New(%d) = %v, %v", wait, p, e)
		}
	}
	p := made(t, 1000)
	for i := range 999 {
		if p.Tick() {
			t.Fatalf("P1901: tick %d ends the view", i+1)
		}
	}
	if !p.Tick() || p.View() != 2 {
		t.Errorf("P1901: tick 1000 does not end the view: %d", p.View())
	}
}

func TestTick(t *testing.T) {
	p := made(t, 3)
	for i := 1; i <= 9; i++ {
		if got := p.Tick(); got != (i%3 == 0) || p.View() != 1+i/3 {
			t.Errorf("P1901: tick %d: %v, view %d", i, got, p.View())
		}
	}
	one := made(t, 1)
	if !one.Tick() || !one.Tick() || one.View() != 3 {
		t.Errorf("P1901: two ticks of one each: view %d", one.View())
	}
}

func TestTo(t *testing.T) {
	p := made(t, 2)
	for _, view := range []int{1, 0, -5, math.MinInt, api.MaxView + 1, math.MaxInt} {
		if p.To(view) || p.View() != 1 {
			t.Errorf("P1901: To(%d) entered view %d", view, p.View())
		}
	}
	p.Tick()
	if p.To(1) || !p.Tick() || p.View() != 2 {
		t.Errorf("P1901: To without effect forgot a tick: view %d", p.View())
	}
	p.Tick()
	if !p.To(7) || p.View() != 7 {
		t.Errorf("P1901: To(7) entered view %d", p.View())
	}
	if p.Tick() || !p.Tick() || p.View() != 8 {
		t.Errorf("P1901: ticks of the view before count: view %d", p.View())
	}
	if !p.To(api.MaxView) || p.Tick() || !p.Tick() || p.View() != api.MaxView || p.Tick() || !p.Tick() || p.View() != api.MaxView {
		t.Errorf("P1901: beyond the last view: %d", p.View())
	}
	if p.To(api.MaxView) {
		t.Error("P1901: To the view that it is in")
	}
}

func TestTwin(t *testing.T) {
	p := made(t, 2)
	p.Tick()
	w := p.Twin()
	if !p.Tick() || w.View() != 1 || !w.Tick() || w.View() != 2 {
		t.Errorf("P1901: views %d and %d", p.View(), w.View())
	}
	w.To(9)
	if p.View() != 2 {
		t.Error("P1901: the pace went along with its twin")
	}
}
