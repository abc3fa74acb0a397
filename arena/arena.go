// Package arena is layer 1: memory, byte by byte. See shared/doc/01-arena.md.
package arena

import "quartermaster/api"

// Arena is memory.
type Arena struct{ mem []byte }

// New is an arena of so many bytes, all 0; nil if no arena has that size.
func New(size int) *Arena {
	if size < api.LeastMem || size > api.GreatMem || !isPowerOfTwo(size) {
		return nil
	}
	return &Arena{mem: make([]byte, size)}
}

// Size is how many bytes it has.
func (a *Arena) Size() int {
	if a == nil {
		return 0
	}
	return len(a.mem)
}

// Load is the word at an address.
func (a *Arena) Load(at int) (uint64, api.Errno) {
	if e := a.checkWords(at, 1); e != api.OK {
		return 0, e
	}
	var b [api.Word]byte
	copy(b[:], a.mem[at:])
	return joinBytes(b), api.OK
}

// Store stores words, one behind the other.
func (a *Arena) Store(at int, l ...uint64) api.Errno {
	if e := a.checkWords(at, len(l)); e != api.OK {
		return e
	}
	for i, x := range l {
		b := splitWord(x)
		copy(a.mem[at+i*api.Word:], b[:])
	}
	return api.OK
}

// Read is a copy of n bytes.
func (a *Arena) Read(at, n int) ([]byte, api.Errno) {
	if e := a.checkRange(at, n); e != api.OK {
		return nil, e
	}
	b := make([]byte, n)
	copy(b, a.mem[at:])
	return b, api.OK
}

// Write writes bytes.
func (a *Arena) Write(at int, b []byte) api.Errno {
	if e := a.checkRange(at, len(b)); e != api.OK {
		return e
	}
	copy(a.mem[at:], b)
	return api.OK
}

// Fill writes a byte n times.
func (a *Arena) Fill(at, n int, c byte) api.Errno {
	if e := a.checkRange(at, n); e != api.OK {
		return e
	}
	part := a.mem[at : at+n]
	for i := range part {
		part[i] = c
	}
	return api.OK
}

// checkRange holds n against the room behind the address, since the sum of both may go round.
func (a *Arena) checkRange(at, n int) api.Errno {
	if a == nil {
		return api.ErrArg
	}
	if at < 0 || n < 0 || n > len(a.mem)-at {
		return api.ErrRange
	}
	return api.OK
}

// checkWords asks for the range first: an address that is wrong in both ways is ErrRange.
func (a *Arena) checkWords(at, n int) api.Errno {
	if e := a.checkRange(at, n*api.Word); e != api.OK {
		return e
	}
	if at%api.Word != 0 {
		return api.ErrAlign
	}
	return api.OK
}

func isPowerOfTwo(n int) bool { return n > 0 && n&(n-1) == 0 }

// joinBytes is the word of these bytes, the lowest first.
func joinBytes(b [api.Word]byte) uint64 {
	var x uint64
	for i, c := range b {
		x |= uint64(c) << (8 * i)
	}
	return x
}

// splitWord is the bytes of a word, the lowest first.
func splitWord(x uint64) [api.Word]byte {
	var b [api.Word]byte
	for i := range b {
		b[i] = byte(x >> (8 * i))
	}
	return b
}
