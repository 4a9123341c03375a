package tomb_test

import (
	"bytes"
	"encoding/binary"
	"fmt"
	"math"
	"math/rand"
	"slices"
	"strings"
	"testing"

	"grist/api"
	"grist/tomb"
)

const (
	least = math.MinInt64
	most  = math.MaxInt64
)

// tombBytes are the bytes of one tomb, whatever its texts' lengths are said to be.
func tombBytes(t tomb.Tomb, ofSeries, ofField int) []byte {
	b := binary.BigEndian.AppendUint16(nil, uint16(ofSeries))
	b = append(b, t.Series...)
	b = binary.BigEndian.AppendUint16(b, uint16(ofField))
	b = append(b, t.Field...)
	b = binary.BigEndian.AppendUint64(b, uint64(t.From))
	return binary.BigEndian.AppendUint64(b, uint64(t.To))
}

// bytesOf are the bytes of tombs, as the document tells them.
func bytesOf(list ...tomb.Tomb) []byte {
	var parts [][]byte
	for _, t := range list {
		parts = append(parts, tombBytes(t, len(t.Series), len(t.Field)))
	}
	return slices.Concat(parts...)
}

// told is the list that b says, as the document tells it; false, if it says none.
func told(b []byte) ([]tomb.Tomb, bool) {
	var list []tomb.Tomb
	for at := 0; at < len(b); {
		var texts [2]string
		for i := range texts {
			if len(b)-at < 2 {
				return nil, false
			}
			n := int(b[at])*256 + int(b[at+1])
			at += 2
			if n > 4000 || n > len(b)-at {
				return nil, false
			}
			texts[i] = string(b[at : at+n])
			at += n
		}
		if len(b)-at < 16 {
			return nil, false
		}
		from, to := binary.BigEndian.Uint64(b[at:]), binary.BigEndian.Uint64(b[at+8:])
		list = append(list, tomb.Tomb{Series: texts[0], Field: texts[1], From: int64(from), To: int64(to)})
		at += 16
	}
	return list, true
}

// says is what the document tells of one tomb.
func says(x tomb.Tomb, series, field string, t int64) bool {
	ofField := x.Field == field
	if x.Field == "" {
		ofField = true
	}
	return x.Series == series && ofField && t >= x.From && t <= x.To
}

func covered(list []tomb.Tomb, series, field string, t int64) bool {
	return slices.ContainsFunc(list, func(x tomb.Tomb) bool { return says(x, series, field, t) })
}

// applied is the answer of Apply, as the document tells it, point by point and tomb by tomb.
func applied(list []tomb.Tomb, columns []api.Column) []api.Column {
	var all []api.Column
	for _, c := range columns {
		var points []api.Point
		for _, p := range c.Points {
			if !covered(list, c.Series, c.Field, p.Time) {
				points = append(points, p)
			}
		}
		if len(points) > 0 {
			all = append(all, api.Column{Series: c.Series, Field: c.Field, Points: points})
		}
	}
	return all
}

// short is some tombs, bytes or columns in few words, however many they are.
func short[E tomb.Tomb | byte | api.Column](some []E) string {
	var parts []string
	for _, x := range some[:min(len(some), 100)] {
		switch x := any(x).(type) {
		case tomb.Tomb:
			parts = append(parts, fmt.Sprintf("{%q %q %d %d}", x.Series, x.Field, x.From, x.To))
		case byte:
			parts = append(parts, fmt.Sprintf("%02x", x))
		case api.Column:
			parts = append(parts, fmt.Sprintf("{%q %q %v}", x.Series, x.Field, x.Points))
		}
	}
	text := strings.Join(parts, " ")
	if len(text) > 300 || len(parts) < len(some) {
		text = text[:min(len(text), 300)] + " and so on"
	}
	return text
}

func sameColumns(a, b []api.Column) bool {
	return slices.EqualFunc(a, b, func(x, y api.Column) bool {
		return x.Series == y.Series && x.Field == y.Field && slices.Equal(x.Points, y.Points)
	})
}

func checkEncode(t *testing.T, want []byte, list ...tomb.Tomb) {
	t.Helper()
	b, e := tomb.Encode(list)
	if e != api.OK || !bytes.Equal(b, want) {
		t.Fatalf("Encode(%s): %s, %v, not %s", short(list), short(b), e, short(want))
	}
}

// checkRefused: such a list has no bytes.
func checkRefused(t *testing.T, list ...tomb.Tomb) {
	t.Helper()
	if b, e := tomb.Encode(list); e != api.ErrArg || len(b) != 0 {
		t.Fatalf("Encode(%s): %s, %v", short(list), short(b), e)
	}
}

func checkDecode(t *testing.T, b []byte, want ...tomb.Tomb) {
	t.Helper()
	list, e := tomb.Decode(b)
	if e != api.OK || !slices.Equal(list, want) {
		t.Fatalf("Decode(%s): %s, %v, not %s", short(b), short(list), e, short(want))
	}
}

// checkNone: b isn't the bytes of a list.
func checkNone(t *testing.T, b []byte) {
	t.Helper()
	if list, e := tomb.Decode(b); e != api.ErrForm || len(list) != 0 {
		t.Fatalf("Decode(%s): %s, %v", short(b), short(list), e)
	}
}

// checkList holds Encode and Decode of a list that has bytes.
func checkList(t *testing.T, list ...tomb.Tomb) {
	t.Helper()
	b := bytesOf(list...)
	checkEncode(t, b, list...)
	checkDecode(t, b, list...)
}

// checkBytes holds Decode of whatever bytes, and Encode of what they say.
func checkBytes(t *testing.T, b []byte) {
	t.Helper()
	list, is := told(b)
	if !is {
		checkNone(t, b)
		return
	}
	checkDecode(t, b, list...)
	checkEncode(t, b, list...)
}

// checkApply holds Apply, and with it Covers of each point's time and those beside it.
func checkApply(t *testing.T, list []tomb.Tomb, columns []api.Column) {
	t.Helper()
	got, want := tomb.Apply(list, columns), applied(list, columns)
	if !sameColumns(got, want) {
		t.Fatalf("Apply(%s, %s): %s, not %s", short(list), short(columns), short(got), short(want))
	}
	for _, c := range columns {
		for _, p := range c.Points {
			for _, time := range []int64{p.Time - 1, p.Time, p.Time + 1} {
				checkCovers(t, list, c.Series, c.Field, time)
			}
		}
	}
}

func checkCovers(t *testing.T, list []tomb.Tomb, series, field string, time int64) {
	t.Helper()
	want := covered(list, series, field, time)
	if got := tomb.Covers(list, series, field, time); got != want {
		t.Fatalf("Covers(%s, %q, %q, %d): %t", short(list), series, field, time, got)
	}
}

// points are some with these times, each of another value.
func points(times ...int64) []api.Point {
	var list []api.Point
	for i, t := range times {
		list = append(list, api.Point{Time: t, Value: api.Value{Kind: api.Integer, Bits: uint64(i)}})
	}
	return list
}

func column(series, field string, times ...int64) api.Column {
	return api.Column{Series: series, Field: field, Points: points(times...)}
}

// someName is one of few, so that tombs and columns often meet.
func someName(random *rand.Rand) string {
	return []string{"", "a", "ab", "b", "\x00", "a,b", "\xff"}[random.Intn(7)]
}

// someTime is mostly one of few, at the edges of what a time is too.
func someTime(random *rand.Rand) int64 {
	switch random.Intn(8) {
	case 0:
		return least + int64(random.Intn(3))
	case 1:
		return most - int64(random.Intn(3))
	case 2:
		return int64(random.Uint64())
	}
	return int64(random.Intn(40) - 20)
}

// someTombs are such of which some end ahead of their beginning.
func someTombs(random *rand.Rand, many int) []tomb.Tomb {
	var list []tomb.Tomb
	for range random.Intn(many + 1) {
		x := tomb.Tomb{Series: someName(random), Field: someName(random), From: someTime(random), To: someTime(random)}
		if random.Intn(4) > 0 {
			x.To = x.From + int64(random.Intn(6))
		}
		list = append(list, x)
	}
	return list
}

// someColumns are such as layers above might not make: out of order, and of like names or times too.
func someColumns(random *rand.Rand, many int) []api.Column {
	var list []api.Column
	for range random.Intn(many + 1) {
		var times []int64
		for range random.Intn(12) {
			times = append(times, someTime(random))
		}
		if random.Intn(3) > 0 {
			slices.Sort(times)
		}
		list = append(list, column(someName(random), someName(random), times...))
	}
	return list
}

func long(n int) string { return strings.Repeat("x", n) }
