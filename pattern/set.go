package pattern

// byteSet is a set of bytes: byte c is in it, if bit c%64 of word c/64 is set.
type byteSet struct {
	words [4]uint64
}

// single is the set of one byte.
func single(c int) byteSet {
	return byteSet{}.with(c, c)
}

// with is the set and all bytes from low to high.
func (s byteSet) with(low, high int) byteSet {
	for c := low; c <= high; c++ {
		b := byte(c)
		s.words[b>>6] |= uint64(1) << (b & 63)
	}
	return s
}

// opposite is the set of all bytes that are not in s.
func (s byteSet) opposite() byteSet {
	for i := range s.words {
		s.words[i] = ^s.words[i]
	}
	return s
}

// has tells whether a byte is in the set.
func (s byteSet) has(b byte) bool {
	return (s.words[b>>6]>>(b&63))&1 == 1
}
