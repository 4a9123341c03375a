package index_test

import (
	"math/rand"
	"runtime"
	"slices"
	"strconv"
	"strings"
	"testing"

	"grist/api"
	"grist/index"
)

// TestApart: R2, indexes don't influence one another, and what one answers hangs on its own calls alone, not on their order.
func TestApart(t *testing.T) {
	a, b := newPair(), newPair()
	a.add(t, of("cpu", "host", "a"))
	a.setKind(t, "cpu", "v", api.Float)
	b.check(t)
	b.add(t, of("cpu", "host", "a", "rack", "1"))
	b.setKind(t, "cpu", "v", api.String)
	b.drop(t, of("cpu", "host", "a"))
	a.check(t)
	b.forget(t, "cpu")
	a.check(t)
	var list []api.Series
	for i := range 100 {
		list = append(list, of("m"+strconv.Itoa(i%3), "k"+strconv.Itoa(i%7), "v"+strconv.Itoa(i%5), "l", strconv.Itoa(i)))
	}
	first := newPair()
	for _, s := range list {
		first.add(t, s)
	}
	first.check(t)
	for seed := range int64(5) {
		// The answers are the first one's, in whatever order the series came, and however often.
		again := pair{index.New(), first.p}
		for _, i := range rand.New(rand.NewSource(seed)).Perm(3 * len(list)) {
			again.x.Add(list[i/3])
			if seed > 2 {
				again.x.Drop(list[i/3])
				again.x.Add(list[i/3])
			}
		}
		again.checkOf(t, []string{"m0", "m1", "m2", "k0"}, []string{"k0", "k6", "l", "m0"})
	}
}

// TestAnswersStay: R3, what was answered stays as it is, whatever comes behind it.
func TestAnswersStay(t *testing.T) {
	x := index.New()
	s := of("cpu", "host", "a", "rack", "1")
	x.Add(s)
	x.SetKind("cpu", "v", api.Float)
	all, with, without := x.All("cpu"), x.With("cpu", "host", "a"), x.With("cpu", "zone", "")
	texts := [][]string{x.Names(), x.Keys("cpu"), x.Values("cpu", "host"), x.Fields("cpu")}
	x.Add(of("cpu"))
	x.Add(of("a", "a", "a"))
	x.SetKind("cpu", "a", api.Float)
	x.Drop(s)
	x.Forget("cpu")
	for _, got := range [][]api.Series{all, with, without} {
		if !sameSeries(got, []api.Series{s}) {
			t.Errorf("%q", got)
		}
	}
	for i, want := range []string{"cpu", "host rack", "a", "v"} {
		if got := strings.Join(texts[i], " "); got != want {
			t.Errorf("%q, not %q", got, want)
		}
	}
}

// TestEndsSoon: many series of one name, and many names, are no reason to take long, nor are many that were there once.
func TestEndsSoon(t *testing.T) {
	const many = 50000
	x := index.New()
	number := func(i int) string { return strconv.Itoa(many + i) }
	nth := func(i int) api.Series {
		return of("cpu", "all", "x", "host", number(i), "rack", number(i/100))
	}
	order := rand.New(rand.NewSource(1)).Perm(many)
	for _, i := range order {
		if isNew, e := x.Add(nth(i)); !isNew || e != api.OK {
			t.Fatal(isNew, e)
		}
		if isNew, e := x.Add(of(number(i), "host", "a")); !isNew || e != api.OK {
			t.Fatal(isNew, e)
		}
		if e := x.SetKind("cpu", number(i), api.Float); e != api.OK {
			t.Fatal(e)
		}
	}
	if all, with := x.All("cpu"), x.With("cpu", "all", "x"); len(all) != many || len(with) != many || !same(all[many-1], nth(many-1)) || !same(with[7], nth(7)) {
		t.Fatal(len(all), len(with))
	}
	if len(x.Names()) != many+1 || len(x.Fields("cpu")) != many || len(x.Values("cpu", "host")) != many || len(x.Values("cpu", "rack")) != many/100 || len(x.Keys("cpu")) != 3 {
		t.Fatal("not all are told")
	}
	for _, i := range order {
		if got := x.With("cpu", "host", number(i)); len(got) != 1 || !same(got[0], nth(i)) {
			t.Fatal(got)
		}
		if kind, there := x.Kind("cpu", number(i)); kind != api.Float || !there || len(x.Keys("cpu")) != 3 {
			t.Fatal(kind, there)
		}
	}
	for _, i := range order[1:] {
		if !x.Drop(nth(i)) || !x.Drop(of(number(i), "host", "a")) {
			t.Fatal("Drop", i)
		}
	}
	for range many {
		if len(x.All("cpu")) != 1 || len(x.Names()) != 2 || len(x.Values("cpu", "host")) != 1 || len(x.With("cpu", "all", "x")) != 1 {
			t.Fatal("All, Names, Values or With")
		}
	}
}

// TestNotKept: neither what was handed in nor what was taken out takes memory from then on.
func TestNotKept(t *testing.T) {
	const many = 2000
	x := index.New()
	kept := memory(func() {
		for i := range many {
			// A few bytes of a long text: the rest of it is the asker's.
			all := strconv.Itoa(many+i) + strings.Repeat("x", 50000)
			for range 2 {
				x.Add(of(all[:4], all[2:5], all[:3]))
				x.Add(of("cpu", all[:4], all[2:5]))
				x.SetKind(all[:4], all[1:5], api.Float)
				x.SetKind("cpu", all[1:5], api.Float)
			}
		}
	})
	if len(x.Names()) != many+1 || kept > 10<<20 {
		t.Errorf("%d bytes are kept for %d names", kept, len(x.Names()))
	}
	for _, left := range []int{0, 1, 10} {
		x = index.New()
		kept = memory(func() {
			for i := range 10 * many {
				x.Add(of("cpu", strconv.Itoa(i), "v", "host", strconv.Itoa(i)))
				x.Add(of(strconv.Itoa(i), "host", "a"))
				x.SetKind(strconv.Itoa(i), "v", api.Float)
			}
			for i := left; i < 10*many; i++ {
				x.Drop(of("cpu", strconv.Itoa(i), "v", "host", strconv.Itoa(i)))
				if i%2 == 0 {
					x.Drop(of(strconv.Itoa(i), "host", "a"))
				}
				x.Forget(strconv.Itoa(i))
			}
		})
		if len(x.All("cpu")) != left || len(x.Keys("cpu")) != left+min(left, 1) || kept > 50000 {
			t.Errorf("%d bytes are kept for %d series", kept, 2*left)
		}
	}
	runtime.KeepAlive(x)
}

// memory is how many bytes more are in use behind a call.
func memory(call func()) int64 {
	var ahead, behind runtime.MemStats
	runtime.GC()
	runtime.ReadMemStats(&ahead)
	call()
	runtime.GC()
	runtime.ReadMemStats(&behind)
	return int64(behind.HeapAlloc) - int64(ahead.HeapAlloc)
}

// TestSteps: long random rows of calls.
func TestSteps(t *testing.T) {
	for seed := range int64(60) {
		random := rand.New(rand.NewSource(seed))
		script := make([]byte, 400)
		random.Read(script)
		runScript(t, script)
	}
}

func FuzzSteps(f *testing.F) {
	f.Add([]byte("some calls of all kinds: 0123456789 \x00\x01\x02\x03 \xf0\xf1\xf2\xf3"))
	f.Fuzz(func(t *testing.T, script []byte) {
		if len(script) < 1000 {
			runScript(t, script)
		}
	})
}

// runScript takes four bytes for each step.
func runScript(t *testing.T, script []byte) {
	t.Helper()
	two := newPair()
	names := []string{"cpu", "mem", "c u", "cZu"}
	values := []string{"a", "a b", "aZ", "a!"}
	for ; len(script) > 3; script = script[4:] {
		name := names[script[1]/64]
		s := of(name)
		for i, key := range []string{"host", "h t", "rack", "a"} {
			// Mostly as they should be: some keys don't rise, and some have no value.
			pick := script[2+i/2] >> (i % 2 * 4) % 16
			if pick == 15 {
				s.Tags = append(s.Tags, api.Tag{Key: key})
			} else if pick < 8 {
				s.Tags = append(s.Tags, api.Tag{Key: key, Value: values[pick%4]})
			}
		}
		if script[1]%8 > 0 {
			slices.SortFunc(s.Tags, func(a, b api.Tag) int { return strings.Compare(a.Key, b.Key) })
		}
		switch script[0] % 16 {
		case 0:
			two.forget(t, name)
		case 1, 2, 3, 4:
			two.drop(t, s)
		case 5, 6:
			// One that is there, if there is any.
			if n := len(two.p.series); n > 0 {
				two.drop(t, two.p.series[int(script[1])%n])
			}
		case 7, 8:
			two.setKind(t, name, values[script[2]%4], int(script[3]%7))
		case 9:
			two.setKind(t, name, values[script[2]%4], 1+int(script[2]%4))
		default:
			two.add(t, s)
		}
		two.checkOf(t, names, []string{"host", "h t", "rack", "a", "a b", ""})
	}
}
