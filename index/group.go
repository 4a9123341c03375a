package index

import (
	"slices"

	"grist/api"
	"grist/series"
)

// group is the series of one name.
type group struct {
	series book[api.Series]             // by their texts
	tagged book[*book[*book[struct{}]]] // by a tag's key, then its value, then the texts of those that have it
}

// add lays in a series that isn't there, with its text; both are kept.
func (g *group) add(text string, s api.Series) {
	g.series.put(text, s)
	for _, t := range s.Tags {
		under(under(&g.tagged, t.Key), t.Value).put(text, struct{}{})
	}
}

// drop takes out the series of that text, and the keys and values that no other one has.
func (g *group) drop(text string) {
	for _, t := range g.series.get(text).Tags {
		values := g.tagged.get(t.Key)
		texts := values.get(t.Value)
		texts.drop(text)
		if texts.size() == 0 {
			values.drop(t.Value)
		}
		if values.size() == 0 {
			g.tagged.drop(t.Key)
		}
	}
	g.series.drop(text)
}

// without is the texts of the series that have no tag of that key, rising.
func (g *group) without(key string) []string {
	return slices.DeleteFunc(g.series.keys(), func(text string) bool {
		_, has := series.Tag(g.series.get(text), key)
		return has
	})
}

// told is the series of these texts, in their order, as an answer: with lists of tags of its own.
func (g *group) told(texts []string) []api.Series {
	list := make([]api.Series, len(texts))
	for i, text := range texts {
		s := g.series.get(text)
		list[i] = api.Series{Name: s.Name, Tags: slices.Clone(s.Tags)}
	}
	return list
}
