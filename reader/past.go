package reader

import "wring/api"

const ring = 16 << api.MaxWindow

// past has what came out last, as far as a copy may reach.
type past struct {
	bytes  [ring]byte
	at     int // where the next byte goes
	window int
	reach  int // how far back a copy may go by now: never beyond the window
}

func (p *past) add(c byte) {
	if p.at < 0 || p.at >= ring {
		return
	}
	p.bytes[p.at] = c
	p.at = (p.at + 1) % ring
	if p.reach < p.window {
		p.reach++
	}
}

// ago answers the byte that came out so many bytes ago.
func (p *past) ago(distance int) byte {
	i := (p.at + ring - distance) % ring
	if i < 0 {
		return 0
	}
	return p.bytes[i]
}
