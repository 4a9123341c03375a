package line_test

import (
	"math/rand"
	"strings"
	"testing"

	"grist/api"
	"grist/line"
)

// TestBatch: P17.2, written out.
func TestBatch(t *testing.T) {
	one, two := row(of("a"), 5, "f", float(1)), row(of("b", "k", "v"), 9, "g", text("#x"))
	for _, x := range []struct {
		s      string
		rows   []api.Row
		faults []line.Fault
	}{
		{"", nil, nil},
		{"\n", nil, nil},
		{"\n\n\n", nil, nil},
		{"#", nil, nil},
		{"# a f=1\n#b\n##\n#\n", nil, nil},
		{"a f=1", []api.Row{one}, nil},
		{"a f=1\n", []api.Row{one}, nil},
		{"a f=1\n\n", []api.Row{one}, nil},
		{"\na f=1", []api.Row{one}, nil},
		{"a f=1\nb,k=v g=\"#x\" 9\n", []api.Row{one, two}, nil},
		{"b,k=v g=\"#x\" 9\na f=1", []api.Row{two, one}, nil},
		{"a f=1\na f=1\na f=1", []api.Row{one, one, one}, nil},
		{"x", nil, []line.Fault{{Line: 1, Errno: api.ErrForm}}},
		{" ", nil, []line.Fault{{Line: 1, Errno: api.ErrForm}}},
		{"\r\n", nil, []line.Fault{{Line: 1, Errno: api.ErrForm}}},
		{" #\n", nil, []line.Fault{{Line: 1, Errno: api.ErrForm}}},
		{"\\#", nil, []line.Fault{{Line: 1, Errno: api.ErrForm}}},
		{"\\#a f=1", []api.Row{row(of("#a"), 5, "f", float(1))}, nil},
		{"a f=1\r\nb f=1\r\n", nil, []line.Fault{{Line: 1, Errno: api.ErrForm}, {Line: 2, Errno: api.ErrForm}}},
		{"a f=1e999\n# c\n\nx\na f=1\na f=1 99999999999999999999\nb,k=v g=\"#x\" 9\na f=\"\n\" 1\na f=" + `"` + long("x", 65537) + `"`,
			[]api.Row{one, two},
			[]line.Fault{{Line: 1, Errno: api.ErrRange}, {Line: 4, Errno: api.ErrForm}, {Line: 6, Errno: api.ErrRange}, {Line: 8, Errno: api.ErrForm}, {Line: 9, Errno: api.ErrForm}, {Line: 10, Errno: api.ErrLong}}},
		{"a f=1,f=2\na f=1\n" + "a,k=1,k=2 f=1\n", []api.Row{one}, []line.Fault{{Line: 1, Errno: api.ErrForm}, {Line: 3, Errno: api.ErrForm}}},
		{"a f=\"x\\\ny\"", nil, []line.Fault{{Line: 1, Errno: api.ErrForm}, {Line: 2, Errno: api.ErrForm}}},
	} {
		checkAnswers(t, x.s, 5, x.rows, x.faults)
		checkBatch(t, x.s, 5)
	}
}

// TestManyLines: P17.2, up to 1000 lines, be they rows or say nothing, and one more.
func TestManyLines(t *testing.T) {
	tooMany := []line.Fault{{Line: 0, Errno: api.ErrLong}}
	for _, one := range []string{"", "#", "x", "a f=1", "a f=1e999", "\r"} {
		for _, n := range []int{1, 2, 998, 999, 1000, 1001, 1002, 2000} {
			s := strings.Repeat(one+"\n", n)
			checkBatch(t, s, 1)
			checkBatch(t, strings.TrimSuffix(s, "\n"), 1)
			checkBatch(t, s+"b g=2", 1)
			checkBatch(t, s+"#", 1)
			checkBatch(t, "b g=2\n"+s, 1)
		}
		checkAnswers(t, strings.Repeat(one+"\n", 1001), 1, nil, tooMany)
		checkAnswers(t, strings.Repeat(one+"\n", 1000)+"#", 1, nil, tooMany)
		checkAnswers(t, strings.Repeat(one+"\n", 1000)+" ", 1, nil, tooMany)
		checkAnswers(t, strings.Repeat(one+"\n", 1<<20), 1, nil, tooMany)
	}
	rows, faults := line.Batch(strings.Repeat("a f=1\n", 1000), 1)
	if len(rows) != 1000 || len(faults) != 0 {
		t.Error(len(rows), faults)
	}
	rows, faults = line.Batch(strings.Repeat("\n", 999)+"a f=1", 1)
	if len(rows) != 1 || len(faults) != 0 {
		t.Error(rows, faults)
	}
	rows, faults = line.Batch(strings.Repeat("\n", 999)+"x\n", 1)
	if len(rows) != 0 || len(faults) != 1 || faults[0] != (line.Fault{Line: 1000, Errno: api.ErrForm}) {
		t.Error(rows, faults)
	}
}

// TestTimesOfBatches: P17.2, each row that says no time has the one that is handed in.
func TestTimesOfBatches(t *testing.T) {
	for _, now := range []int64{0, 1, -1, most, least} {
		checkAnswers(t, "a f=1\na f=1 3\na f=1", now, []api.Row{row(of("a"), now, "f", float(1)), row(of("a"), 3, "f", float(1)), row(of("a"), now, "f", float(1))}, nil)
	}
}

// TestSomeBatches: P17.2, whatever lines come.
func TestSomeBatches(t *testing.T) {
	random := rand.New(rand.NewSource(4))
	for range 2000 {
		var s strings.Builder
		for range random.Intn(20) {
			switch random.Intn(8) {
			case 0:
			case 1:
				s.WriteString("#" + someLine(random))
			default:
				s.WriteString(someLine(random))
			}
			if random.Intn(30) > 0 {
				s.WriteString("\n")
			}
		}
		checkBatch(t, s.String(), int64(random.Uint64()))
	}
}

// TestBatchThereAndBack: P17.3, rows that are printed line by line.
func TestBatchThereAndBack(t *testing.T) {
	random := rand.New(rand.NewSource(5))
	for range 300 {
		var rows []api.Row
		var s strings.Builder
		for len(rows) < 50 {
			r := someRow(random)
			if text, e := line.Print(r); e == api.OK {
				rows = append(rows, r)
				s.WriteString(text + "\n")
			}
		}
		checkAnswers(t, s.String(), 0, rows, nil)
	}
}
