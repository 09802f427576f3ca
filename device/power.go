package device

// Power is on or off, for all devices that hang on it.
type Power struct {
	// Whether it is off, not on: so that the zero value is on.
	off  bool
	uses int
	// Whether it is armed, and how many uses there are ahead of the one by which it goes off then.
	armed bool
	left  int
}

// On tells whether the power is on.
func (p *Power) On() bool {
	return p != nil && !p.off
}

// Uses is how many uses there were.
func (p *Power) Uses() int {
	if p == nil {
		return 0
	}
	return p.uses
}

// Arm lets the power go off behind some uses.
func (p *Power) Arm(n int) {
	if p == nil {
		return
	}
	p.armed = true
	p.left = max(n, 0)
}

// use counts a use, and tells whether the power is on behind it.
func (p *Power) use() bool {
	if !p.On() {
		return false
	}
	p.uses++
	if !p.armed {
		return true
	}
	p.off = p.left == 0
	p.left--
	return p.On()
}

// again turns the power on, not armed.
func (p *Power) again() {
	if p == nil {
		return
	}
	p.off = false
	p.armed = false
}
