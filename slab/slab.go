// Package slab is layer 1: a device of sectors, see shared/doc/01-slab.md.
package slab

import (
	"slices"
	"strings"

	"mosaicist/api"
)

// maxSectors is how many sectors a device may have.
const maxSectors = 2000

// New makes a device of n sectors of noughts.
func New(n int) (api.Slab, api.Errno) {
	if n < 1 || n > maxSectors {
		return api.Slab{}, api.ErrArg
	}
	return api.Slab{Sure: slices.Repeat([]string{padded("")}, n), Left: -1}, api.OK
}

// Get answers a sector as it was written last, sure or not.
func Get(s api.Slab, at int) (api.Slab, string, api.Errno) {
	if !has(s, at) {
		return s, "", api.ErrArg
	}
	s, done := deed(s)
	if !done {
		return s, "", api.ErrDown
	}
	return s, latest(s, at), api.OK
}

// Put writes a sector; the write isn't sure yet.
func Put(s api.Slab, at int, data string) (api.Slab, api.Errno) {
	if !has(s, at) || len(data) > api.Sector {
		return s, api.ErrArg
	}
	s, done := deed(s)
	if !done {
		return s, api.ErrDown
	}
	s.Late = with(s.Late, api.Late{At: at, Data: padded(data)})
	return s, api.OK
}

// Flush makes all writes sure.
func Flush(s api.Slab) (api.Slab, api.Errno) {
	s, done := deed(s)
	if !done {
		return s, api.ErrDown
	}
	sure := slices.Clone(s.Sure)
	for _, w := range s.Late {
		if has(s, w.At) {
			sure[w.At] = w.Data
		}
	}
	s.Sure, s.Late = sure, nil
	return s, api.OK
}

// Arm sets how many deeds the device does yet.
func Arm(s api.Slab, n int) api.Slab {
	s.Left = max(n, -1)
	return s
}

// Start gives the device its power back: of the writes that weren't sure those stay that f says.
func Start(s api.Slab, f api.Fate) api.Slab {
	sure := slices.Clone(s.Sure)
	for i, w := range s.Late {
		if has(s, w.At) {
			sure[w.At] = laid(sure[w.At], w.Data[:kept(f, i, len(w.Data))])
		}
	}
	return api.Slab{Sure: sure, Left: -1}
}

// deed does one deed, if the device has power for it; what isn't done leaves it dead.
func deed(s api.Slab) (api.Slab, bool) {
	if s.Dead || s.Left == 0 {
		s.Dead = true
		return s, false
	}
	if s.Left > 0 {
		s.Left--
	}
	s.Deeds++
	return s, true
}

// has tells whether there is that sector. Writes are asked too: a raw device's may be of any.
func has(s api.Slab, at int) bool {
	return at >= 0 && at < len(s.Sure)
}

func latest(s api.Slab, at int) string {
	for _, w := range slices.Backward(s.Late) {
		if w.At == at {
			return w.Data
		}
	}
	return s.Sure[at]
}

// with makes a list of its own: devices that were handed out before may share the old one's spare room.
func with(late []api.Late, w api.Late) []api.Late {
	l := make([]api.Late, 0, len(late)+1)
	return append(append(l, late...), w)
}

func padded(data string) string {
	return data + strings.Repeat("\x00", api.Sector-len(data))
}

// kept is how many of the first bytes of the i-th write, which has so many, stay.
func kept(f api.Fate, i, size int) int {
	if i == f.Torn {
		return min(max(f.Bytes, 0), api.Sector, size)
	}
	if f.Stay>>(i%64)&1 == 1 {
		return size
	}
	return 0
}

// laid is the old sector with data over its first bytes. A raw device's may be the shorter one.
func laid(old, data string) string {
	if len(data) >= len(old) {
		return data
	}
	return data + old[len(data):]
}
