package store

import (
	"slices"

	"quadriga/api"
	"quadriga/device"
	"quadriga/twice"
)

const (
	// leastSectors is how many sectors a log has at least: two of its head, and one of its ring.
	leastSectors = 3
	// masterSectors is how many sectors a point has.
	masterSectors = 2
)

// Disks is the devices of a store.
type Disks struct {
	*device.Power
	Logs         []*device.Device
	Data, Master *device.Device
}

// NewDisks is new devices.
func NewDisks(streams, sectors, pages int) (*Disks, api.Errno) {
	need := twice.Need(pages)
	if !within(streams, 1, api.MaxStreams) || !within(sectors, leastSectors, api.MaxSectors) || need == 0 {
		return nil, api.ErrArg
	}
	power := &device.Power{}
	d := &Disks{Power: power, Data: device.New(power, need), Master: device.New(power, masterSectors)}
	for range streams {
		d.Logs = append(d.Logs, device.New(power, sectors))
	}
	return d, api.OK
}

// within tells whether a number is from the least to the greatest one.
func within(n, least, greatest int) bool {
	return least <= n && n <= greatest
}

// On tells whether the power is on.
func (d *Disks) On() bool {
	return d != nil && d.Power.On()
}

// Uses is how many uses there were.
func (d *Disks) Uses() int {
	if d == nil {
		return 0
	}
	return d.Power.Uses()
}

// Arm lets the power go off behind some uses.
func (d *Disks) Arm(n int) {
	if d != nil {
		d.Power.Arm(n)
	}
}

// Pages is how many pages there are.
func (d *Disks) Pages() int {
	if d == nil {
		return 0
	}
	// Told by the device itself: so there is nothing kept beside it that could say otherwise.
	pages := 0
	for within(twice.Need(pages+1), 1, d.Data.Sectors()) {
		pages++
	}
	return pages
}

// Crash crashes all devices.
func (d *Disks) Crash(keep ...[]int) {
	if d == nil {
		return
	}
	for i, one := range slices.Concat(d.Logs, []*device.Device{d.Data, d.Master}) {
		var kept []int
		if i < len(keep) {
			kept = keep[i]
		}
		one.Crash(kept...)
	}
}
