package cache_test

import (
	"math/rand"
	"runtime"
	"slices"
	"strconv"
	"testing"

	"grist/api"
	"grist/cache"
)

// TestManyPoints: a column of many points, whatever order they come in, at each place where it could be parted.
func TestManyPoints(t *testing.T) {
	const many = 3000
	for _, times := range [][]int64{up(many), downward(many), mixed(many, 1), mixed(many, 2)} {
		two := newPair(many)
		for _, time := range times {
			two.put(t, one, time, integer(uint64(time)))
		}
		two.expect(t, one, -1, integer(1), api.ErrFull)
		for _, time := range times {
			two.put(t, one, time, integer(uint64(time+1)))
		}
		two.check(t)
		for from := int64(-3); from < 3*many; from += 211 {
			for _, long := range []int64{-1000, -1, 0, 1, 2, 3, 1500, 5000} {
				two.checkGet(t, one, from, from+long)
			}
		}
		for from := int64(0); from < 3*many; from += 301 {
			two.remove(t, one, from, from+from%250)
		}
		two.check(t)
		two.expectGone(t, one, 700, 8000, two.c.Size()-len(two.p.get(one, least, 699))-len(two.p.get(one, 8001, most)))
		for _, time := range mixed(many, 3) {
			two.put(t, one, time, integer(0))
		}
		two.check(t)
		two.expectGone(t, one, least, most, many)
	}
}

// TestEndsSoon: many more points in one column, and many columns, are no reason to take long.
func TestEndsSoon(t *testing.T) {
	const many = 100000
	c := cache.New(2 * many)
	for _, times := range [][]int64{downward(many), up(many), mixed(many, 4)} {
		for _, time := range times {
			if e := c.Put("s", "f", api.Point{Time: time, Value: integer(1)}); e != api.OK {
				t.Fatal(e)
			}
			if len(c.Get("s", "f", time, time)) != 1 {
				t.Fatal("Get", time)
			}
		}
		if c.Size() != many {
			t.Fatal(c.Size())
		}
		got := c.Get("s", "f", least, most)
		if len(got) != many || !slices.IsSortedFunc(got, func(a, b api.Point) int { return int(a.Time - b.Time) }) {
			t.Fatal(len(got))
		}
		for _, time := range times {
			if c.Delete("s", "f", time-1, time+1) != 1 {
				t.Fatal("Delete", time)
			}
		}
	}
	for i := range many {
		series := string([]byte{byte(i >> 16), byte(i >> 8), byte(i)})
		if e := c.Put(series, "f", api.Point{Value: text("a")}); e != api.OK {
			t.Fatal(e)
		}
	}
	if len(c.Columns()) != many || c.Size() != many {
		t.Fatal(c.Size())
	}
}

// TestNotKept: neither what was handed in nor what was taken out takes memory from then on.
func TestNotKept(t *testing.T) {
	const many = 2000
	c := cache.New(2 * many)
	kept := memory(func() {
		for i := range many {
			// A few bytes of a long text: the rest of it is the asker's.
			all := strconv.Itoa(many+i) + long(50000)
			c.Put(all[:4], all[2:5], api.Point{Time: int64(i), Value: text(all[:3])})
		}
	})
	if c.Size() != many || kept > 10<<20 {
		t.Errorf("%d bytes are kept for %d points", kept, c.Size())
	}
	c.Clear()
	laid := func() {
		for _, time := range mixed(many, 5) {
			c.Put("s", "f", api.Point{Time: time, Value: text(long(10000))})
		}
	}
	kept = memory(func() {
		laid()
		for from := int64(0); from < 3*many; from += 300 {
			c.Delete("s", "f", from+1, from+299)
		}
	})
	if c.Size() != many/100 || kept > 1<<20 {
		t.Errorf("%d bytes are kept for %d points behind Delete", kept, c.Size())
	}
	kept = memory(func() {
		laid()
		c.Clear()
	})
	if c.Size() != 0 || kept > 1<<20 {
		t.Errorf("%d bytes are kept behind Clear", kept)
	}
	runtime.KeepAlive(c)
}

// TestGoneFromTheEnd: what is taken out behind all others is kept nowhere else.
func TestGoneFromTheEnd(t *testing.T) {
	const many, size = 530, 10000
	c := cache.New(many)
	kept := memory(func() {
		for i := range int64(many) {
			c.Put("s", "f", api.Point{Time: i * 11 % many, Value: text(long(size))})
		}
	})
	for left := many - 1; left > 0; left-- {
		kept += memory(func() { c.Delete("s", "f", int64(left), most) })
		if c.Size() != left || kept > int64(left+100)*size {
			t.Fatalf("%d bytes are kept for %d points of %d", kept, c.Size(), left)
		}
	}
	runtime.KeepAlive(c)
}

// memory is how many bytes more are in use behind a call.
func memory(call func()) int64 {
	var ahead, behind runtime.MemStats
	runtime.GC()
	runtime.ReadMemStats(&ahead)
	call()
	runtime.GC()
	runtime.ReadMemStats(&behind)
	return int64(behind.HeapAlloc) - int64(ahead.HeapAlloc)
}

// TestSteps: long random rows of calls.
func TestSteps(t *testing.T) {
	for seed := range int64(100) {
		random := rand.New(rand.NewSource(seed))
		script := make([]byte, 600)
		random.Read(script)
		runScript(t, script)
	}
}

func FuzzSteps(f *testing.F) {
	f.Add([]byte("some calls of all kinds: 0123456789 \x00\x01\x02\x03 \xf0\xf1\xf2\xf3"))
	f.Fuzz(func(t *testing.T, script []byte) {
		if len(script) < 2000 {
			runScript(t, script)
		}
	})
}

// runScript takes three bytes for each step.
func runScript(t *testing.T, script []byte) {
	t.Helper()
	two := newPair(30)
	places := []place{one, {"cpu", "w"}, {"mem", "v"}, {"", ""}}
	values := append(ofEachKind(), unformed()[:3]...)
	for ; len(script) > 2; script = script[3:] {
		at := places[script[0]/16%4]
		from, to := int64(script[1]%40)-20, int64(script[2]%40)-20
		switch script[0] % 16 {
		case 0:
			two.remove(t, at, from, to)
		case 1:
			two.remove(t, at, from, from)
		case 2, 3:
			two.checkGet(t, at, from, to)
		case 4:
			if script[1] < 10 {
				two.c.Clear()
				two.p.entries = nil
			}
		case 5:
			two.put(t, at, from, values[int(script[2])%len(values)])
		default:
			// Mostly each column gets values of its own Kind.
			v := ofEachKind()[script[0]/16%4]
			if v.Kind == api.Integer {
				v = integer(uint64(script[2]))
			}
			two.put(t, at, from, v)
		}
		two.check(t)
	}
}
