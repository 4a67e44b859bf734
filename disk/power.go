package disk

// Power is on or off.
type Power struct {
	on    bool
	uses  int
	armed bool
	left  int // the uses that an armed power stays on for
}

// On tells whether the power is on.
func (p *Power) On() bool {
	return p != nil && p.on
}

// Uses is how many uses there were.
func (p *Power) Uses() int {
	if p == nil {
		return 0
	}
	return p.uses
}

// Arm lets the power go off behind some uses.
func (p *Power) Arm(n int) {
	if p != nil {
		p.armed, p.left = true, max(n, 0)
	}
}

// use counts a use, if the power is on, and tells whether it stays on.
func (p *Power) use() bool {
	if !p.on {
		return false
	}
	p.uses++
	if p.armed {
		p.on = p.left > 0
		p.left--
	}
	return p.on
}

// restore lets the power come back.
func (p *Power) restore() {
	p.on, p.armed = true, false
}
