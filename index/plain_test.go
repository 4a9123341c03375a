package index_test

import (
	"fmt"
	"slices"
	"strings"
	"testing"

	"grist/api"
	"grist/index"
	"grist/series"
)

// of is a series with tags of these keys and values, in turn.
func of(name string, pairs ...string) api.Series {
	s := api.Series{Name: name}
	for i := 0; i < len(pairs); i += 2 {
		s.Tags = append(s.Tags, api.Tag{Key: pairs[i], Value: pairs[i+1]})
	}
	return s
}

func same(a, b api.Series) bool {
	return a.Name == b.Name && slices.Equal(a.Tags, b.Tags)
}

func sameSeries(a, b []api.Series) bool {
	return slices.EqualFunc(a, b, same)
}

// short is something in few words, however much it is.
func short(some any) string {
	text := fmt.Sprintf("%q", some)
	if len(text) > 500 {
		text = text[:500] + " and so on"
	}
	return text
}

// fieldKind is the kind that a field has.
type fieldKind struct {
	name, field string
	kind        int
}

// plain is an index as the document tells it, lists in no order: what an Index is held against.
type plain struct {
	series []api.Series
	kinds  []fieldKind
}

func (p *plain) add(s api.Series) (bool, api.Errno) {
	if !series.Formed(s) {
		return false, api.ErrArg
	}
	isNew := !slices.ContainsFunc(p.series, func(one api.Series) bool { return same(one, s) })
	if isNew {
		p.series = append(p.series, api.Series{Name: s.Name, Tags: slices.Clone(s.Tags)})
	}
	return isNew, api.OK
}

func (p *plain) drop(s api.Series) bool {
	was := len(p.series)
	p.series = slices.DeleteFunc(p.series, func(one api.Series) bool { return same(one, s) })
	return len(p.series) < was
}

func (p *plain) forget(name string) int {
	was := len(p.series)
	p.series = slices.DeleteFunc(p.series, func(one api.Series) bool { return one.Name == name })
	p.kinds = slices.DeleteFunc(p.kinds, func(one fieldKind) bool { return one.name == name })
	return was - len(p.series)
}

func (p *plain) setKind(name, field string, kind int) api.Errno {
	if kind < 1 || kind > 4 {
		return api.ErrArg
	}
	old, there := p.kind(name, field)
	if there && old != kind {
		return api.ErrType
	}
	if !there {
		p.kinds = append(p.kinds, fieldKind{name, field, kind})
	}
	return api.OK
}

func (p *plain) kind(name, field string) (int, bool) {
	for _, one := range p.kinds {
		if one.name == name && one.field == field {
			return one.kind, true
		}
	}
	return 0, false
}

// once is each of the texts once, rising.
func once(texts []string) []string {
	slices.SortFunc(texts, strings.Compare)
	return slices.Compact(texts)
}

func (p *plain) names() []string {
	var list []string
	for _, s := range p.series {
		list = append(list, s.Name)
	}
	return once(list)
}

// where is the series of that name that a test holds for, rising by their texts.
func (p *plain) where(name string, holds func(s api.Series) bool) []api.Series {
	byText := map[string]api.Series{}
	var texts []string
	for _, s := range p.series {
		if text, _ := series.Text(s); s.Name == name && holds(s) {
			byText[text] = s
			texts = append(texts, text)
		}
	}
	var list []api.Series
	for _, text := range once(texts) {
		list = append(list, byText[text])
	}
	return list
}

func (p *plain) all(name string) []api.Series {
	return p.where(name, func(api.Series) bool { return true })
}

func (p *plain) with(name, key, value string) []api.Series {
	return p.where(name, func(s api.Series) bool {
		for _, t := range s.Tags {
			if t.Key == key {
				return t.Value == value
			}
		}
		return value == ""
	})
}

// tags is a text of each tag of each series of that name, once, rising.
func (p *plain) tags(name string, textOf func(t api.Tag) (string, bool)) []string {
	var list []string
	for _, s := range p.all(name) {
		for _, t := range s.Tags {
			if text, ok := textOf(t); ok {
				list = append(list, text)
			}
		}
	}
	return once(list)
}

func (p *plain) keys(name string) []string {
	return p.tags(name, func(t api.Tag) (string, bool) { return t.Key, true })
}

func (p *plain) values(name, key string) []string {
	return p.tags(name, func(t api.Tag) (string, bool) { return t.Value, t.Key == key })
}

func (p *plain) fields(name string) []string {
	var list []string
	for _, one := range p.kinds {
		if one.name == name {
			list = append(list, one.field)
		}
	}
	return once(list)
}

// pair is an index and the plain one beside it.
type pair struct {
	x *index.Index
	p *plain
}

func newPair() pair {
	return pair{index.New(), &plain{}}
}

// handed is s with spare room behind its tags, and a call that tells whether it is as it was and then writes over all of it.
func handed(s api.Series) (api.Series, func() bool) {
	room := append(slices.Clone(s.Tags), api.Tag{Key: "spare", Value: "room"}, api.Tag{Key: "more"})
	before := slices.Clone(room)
	return api.Series{Name: s.Name, Tags: room[:len(s.Tags)]}, func() bool {
		stayed := slices.Equal(room, before)
		for i := range room {
			room[i] = api.Tag{Key: "?", Value: "?"}
		}
		return stayed
	}
}

// add does Add on both, without a look at what else there is; so do drop, forget and setKind.
func (two pair) add(t *testing.T, s api.Series) {
	t.Helper()
	given, stayed := handed(s)
	isNew, e := two.x.Add(given)
	if want, wantE := two.p.add(s); isNew != want || e != wantE {
		t.Fatalf("Add(%s): %t, %v, not %t, %v", short(s), isNew, e, want, wantE)
	}
	if !stayed() {
		t.Fatalf("Add(%s) has changed it", short(s))
	}
}

func (two pair) drop(t *testing.T, s api.Series) bool {
	t.Helper()
	given, stayed := handed(s)
	was, want := two.x.Drop(given), two.p.drop(s)
	if was != want {
		t.Fatalf("Drop(%s): %t, not %t", short(s), was, want)
	}
	if !stayed() {
		t.Fatalf("Drop(%s) has changed it", short(s))
	}
	return was
}

func (two pair) forget(t *testing.T, name string) int {
	t.Helper()
	gone, want := two.x.Forget(name), two.p.forget(name)
	if gone != want {
		t.Fatalf("Forget(%q): %d, not %d", name, gone, want)
	}
	return gone
}

func (two pair) setKind(t *testing.T, name, field string, kind int) {
	t.Helper()
	if e, want := two.x.SetKind(name, field, kind), two.p.setKind(name, field, kind); e != want {
		t.Fatalf("SetKind(%q, %q, %d): %v, not %v", name, field, kind, e, want)
	}
}

// pool is all texts that may stand in the place of a name, key, value or field.
func (two pair) pool() []string {
	texts := []string{"", "cpu", "host", "a", "none", "é", "\x00", " ", "cpu,host=a", `a\ b`, "?"}
	for _, s := range two.p.series {
		texts = append(texts, s.Name)
		for _, one := range s.Tags {
			texts = append(texts, one.Key, one.Value)
		}
	}
	for _, one := range two.p.kinds {
		texts = append(texts, one.name, one.field)
	}
	return once(texts)
}

// check holds all that an index can be asked, of all texts that it has heard of, against the plain one: twice, as what was answered first was written over.
func (two pair) check(t *testing.T) {
	t.Helper()
	texts := two.pool()
	two.checkOf(t, texts, texts)
}

// checkOf likewise, of these names and of these texts beside them.
func (two pair) checkOf(t *testing.T, names, others []string) {
	t.Helper()
	for range 2 {
		checkTexts(t, two.x.Names(), two.p.names(), "Names")
		for _, name := range names {
			checkSeries(t, two.x.All(name), two.p.all(name), "All", name)
			checkTexts(t, two.x.Keys(name), two.p.keys(name), "Keys", name)
			checkTexts(t, two.x.Fields(name), two.p.fields(name), "Fields", name)
			two.checkName(t, name, others)
		}
	}
}

// checkName is what is asked with a further text beside a name: a key or a field.
func (two pair) checkName(t *testing.T, name string, others []string) {
	t.Helper()
	for _, other := range others {
		kind, there := two.x.Kind(name, other)
		if want, is := two.p.kind(name, other); kind != want || there != is {
			t.Fatalf("Kind(%q, %q): %d, %t, not %d, %t", name, other, kind, there, want, is)
		}
		values := two.p.values(name, other)
		checkTexts(t, two.x.Values(name, other), values, "Values", name, other)
		checkSeries(t, two.x.With(name, other, ""), two.p.with(name, other, ""), "With", name, other, "")
		for _, value := range append(values, "none", "?", name, other, " ") {
			checkSeries(t, two.x.With(name, other, value), two.p.with(name, other, value), "With", name, other, value)
		}
	}
}

// checkTexts holds an answer against what it must be, and writes over it, its spare room too: it is the asker's own.
func checkTexts(t *testing.T, got, want []string, call ...string) {
	t.Helper()
	if !slices.Equal(got, want) {
		t.Fatalf("%q: %s, not %s", call, short(got), short(want))
	}
	got = got[:cap(got)]
	for i := range got {
		got[i] = "?"
	}
}

// checkSeries likewise; none of its lists may lie in another one's room.
func checkSeries(t *testing.T, got, want []api.Series, call ...string) {
	t.Helper()
	if !sameSeries(got, want) {
		t.Fatalf("%q: %s, not %s", call, short(got), short(want))
	}
	for i, s := range got {
		tags := s.Tags[:cap(s.Tags)]
		for j := range tags {
			tags[j] = api.Tag{Key: "?", Value: "?"}
		}
		if !sameSeries(got[i+1:], want[i+1:]) {
			t.Fatalf("%q: two series of the answer share memory", call)
		}
	}
	got = got[:cap(got)]
	for i := range got {
		got[i] = of("?", "?", "?")
	}
}
