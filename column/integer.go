package column

import (
	"grist/api"
	"grist/bits"
	"grist/pack"
)

func integerBytes(values []api.Value) []byte {
	words, e := pack.Pack(stepsOf(values))
	if e != api.OK {
		return plainIntegers(values)
	}
	return append([]byte{packed}, words...)
}

// stepsOf are the numbers to be packed: how far each integer is from the one ahead of it, modulo 2^64, the first one from 0.
func stepsOf(values []api.Value) []uint64 {
	var steps []uint64
	var ahead uint64
	for _, v := range values {
		steps = append(steps, bits.Zig(int64(v.Bits-ahead)))
		ahead = v.Bits
	}
	return steps
}

func plainIntegers(values []api.Value) []byte {
	w := bits.NewWriter()
	for _, v := range values {
		w.Put(v.Bits, wordBits)
	}
	return append([]byte{plain}, w.Bytes()...)
}

func readIntegers(n int, b []byte) []api.Value {
	if len(b) == 0 {
		return nil
	}
	switch b[0] {
	case plain:
		return readPlain(n, b[1:])
	case packed:
		return readSteps(n, b[1:])
	}
	return nil
}

func readPlain(n int, rest []byte) []api.Value {
	var values []api.Value
	r := bits.NewReader(rest)
	for range n {
		values = append(values, api.Value{Kind: api.Integer, Bits: r.Get(wordBits)})
	}
	return values
}

func readSteps(n int, words []byte) []api.Value {
	steps, e := pack.Unpack(words, n)
	if e != api.OK {
		return nil
	}
	var values []api.Value
	var at uint64
	for _, s := range steps {
		at += uint64(bits.Zag(s))
		values = append(values, api.Value{Kind: api.Integer, Bits: at})
	}
	return values
}
