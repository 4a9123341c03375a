package tomb

import (
	"grist/bits"
)

// How many bits each thing of a tomb's bytes has.
const (
	ofLength = 16 // how many bytes a text has
	ofByte   = 8
	ofTime   = 64
)

const mostText = 4000 // bytes of a series, and of a field

// formed tells whether tombs have bytes.
func formed(list []Tomb) bool {
	for _, t := range list {
		if len(t.Series) > mostText || len(t.Field) > mostText {
			return false
		}
	}
	return true
}

// laid is the bytes of formed tombs.
func laid(list []Tomb) []byte {
	w := bits.NewWriter()
	for _, t := range list {
		putText(w, t.Series)
		putText(w, t.Field)
		w.Put(uint64(t.From), ofTime)
		w.Put(uint64(t.To), ofTime)
	}
	return w.Bytes()
}

func putText(w *bits.Writer, text string) {
	w.Put(uint64(len(text)), ofLength)
	for i := range len(text) {
		w.Put(uint64(text[i]), ofByte)
	}
}

// read undoes laid; false, if the last tomb isn't whole.
func read(b []byte) ([]Tomb, bool) {
	var list []Tomb
	r := bits.NewReader(b)
	for r.Left() > 0 {
		series := getText(r)
		field := getText(r)
		from := int64(r.Get(ofTime))
		to := int64(r.Get(ofTime))
		list = append(list, Tomb{Series: series, Field: field, From: from, To: to})
	}
	return list, !r.Bad()
}

// getText undoes putText; where there is too little, the reader is bad from then on.
func getText(r *bits.Reader) string {
	text := make([]byte, r.Get(ofLength))
	for i := range text {
		text[i] = byte(r.Get(ofByte))
	}
	return string(text)
}
