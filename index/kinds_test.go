package index_test

import (
	"math"
	"slices"
	"strings"
	"testing"

	"grist/api"
	"grist/index"
)

// TestKinds: P16.3, each kind behind each other one, and what is none.
func TestKinds(t *testing.T) {
	numbers := []int{math.MinInt, -4, -1, 0, 1, 2, 3, 4, 5, 6, 257, 1 << 32, 1<<32 + 1, math.MaxInt}
	isKind := func(n int) bool { return 1 <= n && n <= 4 }
	for _, first := range numbers {
		for _, second := range numbers {
			two := newPair()
			for _, kind := range []int{first, second, first} {
				had, has := two.p.kind("cpu", "v")
				want := api.OK
				if !isKind(kind) {
					want = api.ErrArg
				} else if has && had != kind {
					want = api.ErrType
				}
				if e := two.x.SetKind("cpu", "v", kind); e != want {
					t.Errorf("SetKind %d behind %d: %v", kind, had, e)
				}
				two.setKind(t, "cpu", "v", kind)
				two.check(t)
			}
			if kind, there := two.x.Kind("cpu", "v"); isKind(first) && (kind != first || !there) {
				t.Errorf("behind %d and %d: %d, %t", first, second, kind, there)
			}
		}
	}
}

// TestNoKinds: P16.3, a field has a kind by SetKind alone, whatever series there are.
func TestNoKinds(t *testing.T) {
	two := newPair()
	two.add(t, of("cpu", "v", "w"))
	for _, field := range []string{"v", "w", "", "cpu"} {
		if kind, there := two.x.Kind("cpu", field); kind != 0 || there {
			t.Error(field, kind, there)
		}
	}
	for _, kind := range []int{0, 5} {
		two.setKind(t, "cpu", "v", kind)
		two.check(t)
	}
	if fields := two.x.Fields("cpu"); len(fields) != 0 {
		t.Errorf("%q", fields)
	}
}

// TestKindsApart: P16.3, kinds are of a name's field, whatever bytes these are, and none is taken for another one; a name that has kinds alone has no series.
func TestKindsApart(t *testing.T) {
	texts := append([]string{"", "cpu", "cpuv", "v", "uv", "cp", "\x00", "a\x00", "\x00a", "\n", "\x7f", "a=b", "9", strings.Repeat("x", 65), strings.Repeat("x", 5000)}, signs...)
	two := newPair()
	for i, name := range texts {
		for j, field := range slices.Backward(texts) {
			if (i+j)%3 > 0 {
				two.setKind(t, name, field, 1+(i*5+j)%4)
			}
		}
	}
	for i, name := range texts {
		for j, field := range texts {
			kind, there := two.x.Kind(name, field)
			if has := (i+j)%3 > 0; there != has || has && kind != 1+(i*5+j)%4 || !has && kind != 0 {
				t.Errorf("Kind(%q, %q): %d, %t", name, field, kind, there)
			}
		}
		checkTexts(t, two.x.Fields(name), two.p.fields(name), "Fields", name)
		if len(two.x.All(name)) != 0 || len(two.x.Keys(name)) != 0 {
			t.Errorf("%q has series", name)
		}
	}
	if names := two.x.Names(); len(names) != 0 {
		t.Errorf("%q", names)
	}
	for _, name := range texts[:8] {
		two.forget(t, name)
	}
	for _, name := range texts {
		checkTexts(t, two.x.Fields(name), two.p.fields(name), "Fields", name)
	}
}

// TestNil: R1, a nil index, and one that New hasn't made.
func TestNil(t *testing.T) {
	var x *index.Index
	s := of("cpu", "host", "a")
	for range 2 {
		for _, s := range append(unformed(), s) {
			if isNew, e := x.Add(s); isNew || e != api.ErrArg {
				t.Error(isNew, e)
			}
		}
		for kind := range 6 {
			if e := x.SetKind("cpu", "v", kind); e != api.ErrArg {
				t.Error(kind, e)
			}
		}
		if x.Drop(s) || x.Forget("cpu") != 0 || len(x.Names()) != 0 || len(x.All("cpu")) != 0 || len(x.Keys("cpu")) != 0 || len(x.Values("cpu", "host")) != 0 {
			t.Error("it has series")
		}
		if len(x.With("cpu", "host", "a")) != 0 || len(x.With("cpu", "rack", "")) != 0 || len(x.Fields("cpu")) != 0 {
			t.Error("it has series or fields")
		}
		if kind, there := x.Kind("cpu", "v"); kind != 0 || there {
			t.Error(kind, there)
		}
	}
	two := pair{&index.Index{}, &plain{}}
	two.check(t)
	two.drop(t, s)
	two.forget(t, "cpu")
	two.add(t, s)
	two.setKind(t, "cpu", "v", api.Float)
	two.check(t)
}
