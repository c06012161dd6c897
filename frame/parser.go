package frame

import "leadline/crc"

// Parser finds frames among bytes that come piece by piece.
type Parser struct {
	left []byte // what may yet be a frame's beginning: less than a whole frame
	bad  int
}

// kind: what bytes begin with.
type kind int

const (
	noise kind = iota // a byte with which no frame begins
	bad               // a frame that isn't one
	begun             // more has to come till it is known
	whole             // a frame
)

// New tells a parser to which nothing has come.
func New() *Parser {
	return &Parser{}
}

// Feed takes b behind what is left, and tells the payloads of the frames that are whole by now, in order.
func (p *Parser) Feed(b []byte) [][]byte {
	all := append([]byte(nil), p.left...)
	all = append(all, b...)
	var told [][]byte
	for len(all) > 0 {
		is, size := judge(all)
		if is == begun {
			break
		}
		if is == bad {
			p.bad++
		}
		if is == whole {
			told = append(told, copied(all[ahead:size-behind]))
		}
		all = all[size:]
	}
	p.left = copied(all) // by itself, so that all that came isn't kept with it
	return told
}

// Bad tells how many frames were bad.
func (p *Parser) Bad() int {
	return p.bad
}

// Left tells how many bytes are left, as they may be a frame's beginning.
func (p *Parser) Left() int {
	return len(p.left)
}

// judge tells what b begins with, and how many bytes go with it; b has one byte at least.
func judge(b []byte) (kind, int) {
	if b[0] != first || len(b) > 1 && b[1] != second {
		return noise, 1
	}
	if len(b) < ahead {
		return begun, 0
	}
	if !fits(int(b[mark])) {
		return bad, 1 // by its first byte alone: a frame may begin behind it
	}
	size := ahead + int(b[mark]) + behind
	if len(b) < size {
		return begun, 0
	}
	if !sound(b[:size]) {
		return bad, 1
	}
	return whole, size
}

// sound tells whether a frame's last two bytes are the sum of those that stand ahead of them.
func sound(f []byte) bool {
	end := len(f) - behind
	return crc.Sum(f[mark:end]) == uint16(f[end])<<8|uint16(f[end+1])
}

// copied tells the same bytes in new memory.
func copied(b []byte) []byte {
	return append([]byte(nil), b...)
}
