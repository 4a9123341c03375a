package index

import (
	"strings"

	"grist/api"
)

// SetKind makes kind that of the field; ErrArg, if there is no such kind; ErrType, if the field has another one.
func (x *Index) SetKind(name, field string, kind int) api.Errno {
	if x == nil || kind < api.Float || kind > api.String {
		return api.ErrArg
	}
	old, there := x.Kind(name, field)
	if there && old != kind {
		return api.ErrType
	}
	if !there {
		under(&x.kinds, strings.Clone(name)).put(strings.Clone(field), kind)
	}
	return api.OK
}

// Kind is the field's kind, and true.
func (x *Index) Kind(name, field string) (int, bool) {
	kind := x.kindsOf(name).get(field)
	return kind, kind != 0
}

// Fields is the fields of that name that have kinds, rising.
func (x *Index) Fields(name string) []string {
	return x.kindsOf(name).keys()
}

func (x *Index) kindsOf(name string) *book[int] {
	if x == nil {
		return nil
	}
	return x.kinds.get(name)
}
