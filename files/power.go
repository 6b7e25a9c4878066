package files

import "ferryman/api"

// power is how many more calls are done until it goes out.
type power int

const (
	endless power = -1 // no Cut
	down    power = 0
)

// cut is the power behind a Cut. One that is out stays so, as nothing but a Crash brings it again.
func (p power) cut(n int) power {
	if p == down {
		return down
	}
	return power(max(n, 0))
}

// done ends a call that counts for a Cut.
func (d *Disk) done() api.Errno {
	if d.power > down {
		d.power--
	}
	return api.OK
}
