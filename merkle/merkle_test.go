package merkle_test

import (
	"math"
	"slices"
	"testing"

	"folkmoot/api"
	"folkmoot/hash"
	"folkmoot/merkle"
)

func leaves(n int) []hash.Digest {
	l := make([]hash.Digest, n)
	for i := range l {
		l[i] = hash.Digest(i)
	}
	return l
}

func TestRoot(t *testing.T) {
	for _, c := range []struct {
		l    []hash.Digest
		want hash.Digest
	}{
		{[]hash.Digest{1}, 1},
		{[]hash.Digest{1, 2}, 0xc857bd471ca1718f},
		{[]hash.Digest{1, 2, 3, 4}, 0xc7f0cfa06aef3ef1},
		{leaves(256), 0x7aef64d68d0edc13},
	} {
		if got, e := merkle.Root(c.l); got != c.want || e != api.OK {
			t.Errorf("P401: Root of %d = %x, %v", len(c.l), got, e)
		}
	}
	a, b, c, d := hash.Digest(5), hash.Digest(6), hash.Digest(7), hash.Digest(8)
	want := hash.Two("mt", hash.Two("mt", a, b), hash.Two("mt", c, d))
	if got, _ := merkle.Root([]hash.Digest{a, b, c, d}); got != want {
		t.Errorf("P401: Root = %x, want %x", got, want)
	}
}

func TestWrongCounts(t *testing.T) {
	for _, n := range []int{0, 3, 5, 6, 7, 12, 255, 257, 512, 1024} {
		l := leaves(n)
		if got, e := merkle.Root(l); got != 0 || e != api.ErrArg {
			t.Errorf("P401: Root of %d = %x, %v", n, got, e)
		}
		if got, e := merkle.Path(l, 0); len(got) != 0 || e != api.ErrArg {
			t.Errorf("P401: Path of %d = %x, %v", n, got, e)
		}
	}
	for _, i := range []int{-1, 4, 5, math.MaxInt, math.MinInt} {
		if got, e := merkle.Path(leaves(4), i); len(got) != 0 || e != api.ErrArg {
			t.Errorf("P401: Path to %d of 4 = %x, %v", i, got, e)
		}
	}
}

func TestPath(t *testing.T) {
	l := []hash.Digest{5, 6, 7, 8}
	ab, cd := hash.Two("mt", 5, 6), hash.Two("mt", 7, 8)
	for i, want := range [][]hash.Digest{{6, cd}, {5, cd}, {8, ab}, {7, ab}} {
		if got, e := merkle.Path(l, i); !slices.Equal(got, want) || e != api.OK {
			t.Errorf("P401: Path to %d = %x, %v", i, got, e)
		}
	}
	if got, e := merkle.Path([]hash.Digest{9}, 0); len(got) != 0 || e != api.OK {
		t.Errorf("P401: Path of one leaf = %x, %v", got, e)
	}
	if !slices.Equal(l, []hash.Digest{5, 6, 7, 8}) {
		t.Error("P2: the leaves were changed")
	}
}

func TestClimb(t *testing.T) {
	path := []hash.Digest{1, 2, 3}
	want := hash.Two("mt", 2, hash.Two("mt", 9, 1))
	want = hash.Two("mt", want, 3)
	if got := merkle.Climb(9, 2, path); got != want {
		t.Errorf("P401: Climb = %x, want %x", got, want)
	}
	if got := merkle.Climb(9, 2+8, path); got != want {
		t.Errorf("P401: bits beyond the path count: %x", got)
	}
	if got := merkle.Climb(9, 5, nil); got != 9 {
		t.Errorf("P401: Climb of no path = %x", got)
	}
}

func TestVerify(t *testing.T) {
	for h := range api.MaxHeight + 1 {
		l := leaves(1 << h)
		root, _ := merkle.Root(l)
		for i := range l {
			path, e := merkle.Path(l, i)
			if e != api.OK || len(path) != h || !merkle.Verify(root, l[i], i, path) {
				t.Fatalf("P402: height %d, leaf %d: %v", h, i, e)
			}
			if merkle.Verify(root+1, l[i], i, path) || merkle.Verify(root, l[i]+1, i, path) {
				t.Errorf("P401: a wrong digest is verified at %d", i)
			}
			if merkle.Verify(root, l[i], i+1<<h, path) || merkle.Verify(root, l[i], i-1<<h, path) {
				t.Errorf("P401: a leaf past the end is verified at %d", i)
			}
			if h > 0 && merkle.Verify(root, l[i], i^1, path) {
				t.Errorf("P401: the leaf beside is verified at %d", i)
			}
		}
	}
}

func TestVerifyOfLongPath(t *testing.T) {
	path := leaves(api.MaxHeight + 1)
	if merkle.Verify(merkle.Climb(1, 0, path), 1, 0, path) {
		t.Error("P401: a path above MaxHeight is verified")
	}
	if path = path[1:]; !merkle.Verify(merkle.Climb(1, 255, path), 1, 255, path) {
		t.Error("P401: a path of MaxHeight is not verified")
	}
	long := leaves(100)
	if merkle.Verify(merkle.Climb(1, -1, long), 1, -1, long) {
		t.Error("P401: a path of 100 is verified")
	}
}
