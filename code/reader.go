package code

// reader takes values off the front of bytes. Each of its methods tells whether the bytes have what was asked for.
type reader struct {
	rest []byte
}

// value reads the value of a letter.
func (r *reader) value(letter byte) (Value, bool) {
	read := r.number
	if letter == 't' {
		read = r.text
	}
	return read(width(letter))
}

// number reads a number in width bytes.
func (r *reader) number(width int) (Value, bool) {
	b, ok := r.take(width)
	var v Value
	for _, x := range b {
		v.N = v.N<<8 | uint64(x)
	}
	return v, ok
}

// text reads a string, ahead of it its length in width bytes.
func (r *reader) text(width int) (Value, bool) {
	// The length is held against the limit here: bytes with a longer string are none that Encode makes.
	size, ok := r.number(width)
	if !ok || size.N > maxText {
		return Value{}, false
	}
	b, ok := r.take(int(size.N))
	return Value{S: string(b)}, ok
}

func (r *reader) take(n int) ([]byte, bool) {
	if n > len(r.rest) {
		return nil, false
	}
	b := r.rest[:n]
	r.rest = r.rest[n:]
	return b, true
}
