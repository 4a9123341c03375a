package column

import (
	mathbits "math/bits"

	"grist/api"
	"grist/bits"
)

// countBits are the bits that tell how many of a float's bits are 0, or differ: numbers below wordBits.
const countBits = 6

func floatBytes(values []api.Value) []byte {
	w := bits.NewWriter()
	ahead := values[0].Bits
	w.Put(ahead, wordBits)
	for _, v := range values[1:] {
		putUnlike(w, v.Bits^ahead)
		ahead = v.Bits
	}
	return w.Bytes()
}

// putUnlike lays down the bits in which a float is unlike the one ahead of it.
func putUnlike(w *bits.Writer, unlike uint64) {
	if unlike == 0 {
		w.Put(0, 1)
		return
	}
	above, below := mathbits.LeadingZeros64(unlike), mathbits.TrailingZeros64(unlike)
	span := wordBits - above - below
	w.Put(1, 1)
	w.Put(uint64(above), countBits)
	w.Put(uint64(span-1), countBits)
	w.Put(unlike>>below, span)
}

func readFloats(n int, b []byte) []api.Value {
	r := bits.NewReader(b)
	values := []api.Value{{Kind: api.Float, Bits: r.Get(wordBits)}}
	for i := range n - 1 {
		values = append(values, api.Value{Kind: api.Float, Bits: values[i].Bits ^ getUnlike(r)})
	}
	return values
}

// getUnlike undoes putUnlike.
func getUnlike(r *bits.Reader) uint64 {
	if r.Get(1) == 0 {
		return 0
	}
	above, span := int(r.Get(countBits)), int(r.Get(countBits))+1
	below := wordBits - above - span
	// No float has so many bits: a 0 is never laid down like that, so Decode sees the fault.
	if below < 0 {
		return 0
	}
	return r.Get(span) << below
}
