package store

// NumberSize is how many bytes a number has.
const NumberSize = 8

// AppendNumber lays a number's bytes behind others, the lowest first.
func AppendNumber(bytes []byte, n int64) []byte {
	for i := range NumberSize {
		bytes = append(bytes, byte(n>>(8*i)))
	}
	return bytes
}

// Number gives the number that stands at the beginning of bytes.
func Number(bytes []byte) int64 {
	n := int64(0)
	for i := range NumberSize {
		n |= int64(bytes[i]) << (8 * i)
	}
	return n
}
