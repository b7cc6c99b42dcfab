package copycert_test

import (
	"testing"

	"folkmoot/copycert"
	"folkmoot/median"
	"folkmoot/sample"
)

func TestCopies(t *testing.T) {
	s := sample.New(1, 2)
	c := s.Cert(sample.Cmd(0), 50)
	a, b, d := copycert.Cert(c), copycert.Stamp(c.Stamps[0]), copycert.Sig(c.Stamps[1].Sig)
	if !median.Same(a, c) || b.At != 50 || d.Who != 1 {
		t.Fatal("a copy is something else")
	}
	a.Stamps[2].Sig.Path[0]++
	a.Stamps[0].At++
	b.Sig.Path[0]++
	d.Path[0]++
	if e := median.Valid(s.Keys, c); e != 0 {
		t.Errorf("a copy is shared: %v", e)
	}
}
