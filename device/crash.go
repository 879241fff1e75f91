package device

import (
	"slices"

	"strongroom/api"
)

// Limit lets so many calls of Write, Sync and Beat be done; behind them the
// device is off. It stands in the place of the one ahead of it.
func (d *Device) Limit(calls int) {
	if d == nil {
		return
	}
	d.limited, d.left = true, max(calls, 0)
}

// Crash keeps those of the waiting writes for which keep has true at their
// place; the others are gone. The device isn't off any more.
func (d *Device) Crash(keep ...bool) {
	if d == nil {
		return
	}
	for n, w := range d.waiting {
		if n < len(keep) && keep[n] {
			d.kept[w.at] = w.with
		}
	}
	// Only behind all of them is it clear what is kept of a block.
	for _, w := range d.waiting {
		d.seen[w.at] = d.kept[w.at]
	}
	d.waiting = nil
	d.limited, d.left = false, 0
}

// Overwrite lays b on a block by another hand, which asks neither whether
// the device is off nor what waits there. ErrNil, ErrArg.
func (d *Device) Overwrite(i int, b []byte) api.Errno {
	if e := d.wrong(i, b); e != api.OK {
		return e
	}
	d.kept[i] = whole(b)
	d.seen[i] = d.kept[i]
	d.waiting = slices.DeleteFunc(d.waiting, func(w write) bool { return w.at == i })
	return api.OK
}

// off answers whether all the calls of a limit are done.
func (d *Device) off() bool {
	return d.limited && d.left == 0
}

// count takes a call off the limit. ErrNil, ErrDown.
func (d *Device) count() api.Errno {
	if d == nil {
		return api.ErrNil
	}
	if d.off() {
		return api.ErrDown
	}
	if d.limited {
		d.left--
	}
	return api.OK
}
