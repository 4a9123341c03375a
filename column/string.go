package column

import (
	"grist/api"
	"grist/bits"
	"grist/lz"
)

// mostTexts are the bytes of a column's texts, with their lengths.
const mostTexts = 1 << 22

func stringBytes(values []api.Value) ([]byte, api.Errno) {
	texts, ok := laid(values)
	if !ok {
		return nil, api.ErrLong
	}
	short := lz.Pack(texts)
	if len(short) < len(texts) {
		return append([]byte{packed}, short...), api.OK
	}
	return append([]byte{plain}, texts...), api.OK
}

// laid is each text behind its length; false, if they are too long together.
func laid(values []api.Value) ([]byte, bool) {
	var texts []byte
	for _, v := range values {
		texts = append(texts, bits.Short(uint64(len(v.Text)))...)
		texts = append(texts, v.Text...)
		if len(texts) > mostTexts {
			return nil, false
		}
	}
	return texts, true
}

func readStrings(n int, b []byte) []api.Value {
	if len(b) == 0 {
		return nil
	}
	switch b[0] {
	case plain:
		return readTexts(n, b[1:])
	case packed:
		texts, e := lz.Unpack(b[1:], mostTexts)
		if e != api.OK {
			return nil
		}
		return readTexts(n, texts)
	}
	return nil
}

// readTexts are the first n texts, each behind its length; none, if there are fewer.
func readTexts(n int, texts []byte) []api.Value {
	var values []api.Value
	for range n {
		length, size := bits.ReadShort(texts)
		texts = texts[size:]
		if size == 0 || length > uint64(len(texts)) {
			return nil
		}
		values = append(values, api.Value{Kind: api.String, Text: string(texts[:length])})
		texts = texts[length:]
	}
	return values
}
