// Package utf is layer 1, bytes and code points: see shared/doc/01-utf.md.
package utf

// One tells the point whose bytes stand at a place of s, and how many they
// are; 0 and 0, if none stand there.
func One(s string, at int) (int32, int) {
	if at < 0 || at >= len(s) {
		return 0, 0
	}
	switch first := s[at]; {
	case first < 0x80:
		return int32(first), 1
	case first < 0xc0:
		return 0, 0
	case first < 0xe0:
		return behind(s[at:], int32(first&0x1f), 2, 0x80)
	case first < 0xf0:
		return behind(s[at:], int32(first&0x0f), 3, 0x800)
	case first < 0xf8:
		return behind(s[at:], int32(first&0x07), 4, 0x10000)
	}
	return 0, 0
}

// behind tells the point whose n bytes s begins with; bits are those of the
// first of them. A point below least would do with fewer bytes, so these
// would not be its own.
func behind(s string, bits int32, n int, least int32) (int32, int) {
	if len(s) < n {
		return 0, 0
	}
	for i := 1; i < n; i++ {
		if s[i]&0xc0 != 0x80 {
			return 0, 0
		}
		bits = bits<<6 | int32(s[i]&0x3f)
	}
	if bits < least || !isPoint(bits) {
		return 0, 0
	}
	return bits, n
}

// isPoint tells whether a number is a point.
func isPoint(n int32) bool {
	return 0 <= n && n < 0xd800 || 0xdfff < n && n <= 0x10ffff
}

// Put tells a point's bytes; they are empty, if the number is no point.
func Put(point int32) string {
	return string(lay(nil, point))
}

// lay puts a point's bytes behind those of b; none, if the number is no point.
func lay(b []byte, point int32) []byte {
	switch {
	case !isPoint(point):
		return b
	case point < 0x80:
		return append(b, byte(point))
	case point < 0x800:
		return append(b, 0xc0|byte(point>>6), six(point))
	case point < 0x10000:
		return append(b, 0xe0|byte(point>>12), six(point>>6), six(point))
	}
	return append(b, 0xf0|byte(point>>18), six(point>>12), six(point>>6), six(point))
}

// six is a byte behind the first one, with the lowest six bits of a number.
func six(bits int32) byte {
	return 0x80 | byte(bits&0x3f)
}

// Bad tells the place of the first byte at which no point's bytes stand, from
// the beginning on; how many bytes there are, if all is right.
func Bad(s string) int {
	at := 0
	for at < len(s) {
		_, n := One(s, at)
		if n == 0 {
			break
		}
		at += n
	}
	return at
}

// Points tells the points up to the place that Bad tells, and that place.
func Points(s string) ([]int32, int) {
	var l []int32
	at := 0
	for at < len(s) {
		point, n := One(s, at)
		if n == 0 {
			break
		}
		l = append(l, point)
		at += n
	}
	return l, at
}

// Join tells the bytes of the points up to the first number that is none, and
// the place of that in l; how many there are, if all are points.
func Join(l []int32) (string, int) {
	var b []byte
	for i, point := range l {
		if !isPoint(point) {
			return string(b), i
		}
		b = lay(b, point)
	}
	return string(b), len(l)
}
