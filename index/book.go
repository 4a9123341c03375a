package index

import (
	"maps"
	"slices"
)

// book is what stands under texts. A nil one has nothing.
type book[V any] struct {
	held map[string]V
	most int // the most that held has had since it was made
}

func (b *book[V]) size() int {
	if b == nil {
		return 0
	}
	return len(b.held)
}

func (b *book[V]) has(key string) bool {
	if b == nil {
		return false
	}
	_, is := b.held[key]
	return is
}

// get is what stands under key; the zero value, if nothing does.
func (b *book[V]) get(key string) V {
	if b == nil {
		var none V
		return none
	}
	return b.held[key]
}

// keys is all under which something stands, rising.
func (b *book[V]) keys() []string {
	if b == nil {
		return nil
	}
	return slices.Sorted(maps.Keys(b.held))
}

// put lays v under key, which is kept.
func (b *book[V]) put(key string, v V) {
	if b.held == nil {
		b.held = make(map[string]V)
	}
	b.held[key] = v
	b.most = max(b.most, len(b.held))
}

// drop takes out what stands under key.
func (b *book[V]) drop(key string) {
	delete(b.held, key)
	if len(b.held) > b.most/4 {
		return
	}
	// A map never gives back the room of what was taken out, nor is it gone through sooner without it.
	held := make(map[string]V, len(b.held))
	maps.Copy(held, b.held)
	b.held, b.most = held, len(held)
}

// under is the book that stands under key: it is laid there, if there is none, and key is kept then.
func under[V any](b *book[*book[V]], key string) *book[V] {
	inner := b.get(key)
	if inner == nil {
		inner = &book[V]{}
		b.put(key, inner)
	}
	return inner
}
