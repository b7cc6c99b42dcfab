package signed_test

import (
	"testing"

	"folkmoot/api"
	"folkmoot/hash"
	"folkmoot/key"
	"folkmoot/sample"
	"folkmoot/signed"
)

func TestCheck(t *testing.T) {
	s := sample.New(1, 2)
	sign := func(who int, d hash.Digest) signed.Mark {
		sig, _ := s.Key[who].Sign(d)
		return signed.Mark{Who: who, Digest: d, Sig: sig}
	}
	first, last := sign(0, 7), sign(3, 7)
	wrong := map[string]signed.Mark{
		"digest": {Who: 0, Digest: 8, Sig: first.Sig}, "replica": {Who: 1, Digest: 7, Sig: first.Sig},
		"no replica": {Who: 4, Digest: 7, Sig: key.Sig{Who: 4}}, "before the first": {Who: -1, Digest: 7, Sig: key.Sig{Who: -1}},
		"name in the signature": {Who: 0, Digest: 7, Sig: key.Sig{Who: 3, One: first.Sig.One, Path: first.Sig.Path}},
	}
	mark := func(m signed.Mark) signed.Mark { return m }
	if e := signed.Check(s.Keys.Roots, 2, mark, first, last); e != api.OK {
		t.Errorf("two that are signed: %v", e)
	}
	if e := signed.Check(s.Keys.Roots, 2, mark); e != api.OK {
		t.Errorf("nothing: %v", e)
	}
	for name, m := range wrong {
		if e := signed.Check(s.Keys.Roots, 2, mark, first, m); e != api.ErrSig {
			t.Errorf("a wrong %s: %v", name, e)
		}
	}
}
