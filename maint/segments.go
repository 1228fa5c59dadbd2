package maint

import (
	"landau/api"
	"landau/disk"
	"landau/seg"
)

// segments are those of all stripes that there may be, whatever the last epoch has.
type segments [api.MaxStripes]*seg.Seg

// newSegments makes segments on disks with room for so many bytes each.
func newSegments(room int) (segments, api.Errno) {
	return segments{}.each(func(*seg.Seg) (*seg.Seg, api.Errno) {
		d, e := disk.New(room)
		if e != api.OK {
			return nil, e
		}
		return seg.Open(d)
	})
}

// each answers what do makes of each segment, in their order, up to the first error.
func (all segments) each(do func(s *seg.Seg) (*seg.Seg, api.Errno)) (segments, api.Errno) {
	var made segments
	e := api.OK
stripes:
	for k, s := range all {
		made[k], e = do(s)
		if e != api.OK {
			break stripes
		}
	}
	return made, e
}

// opened answers segments that know what the disks of these have.
func (all segments) opened() segments {
	anew, _ := all.each(func(s *seg.Seg) (*seg.Seg, api.Errno) { return seg.Open(s.Disk()) })
	return anew
}

// twins answers segments that are like these, and go their own ways from now on.
func (all segments) twins() segments {
	twins, _ := all.each(func(s *seg.Seg) (*seg.Seg, api.Errno) { return s.Twin(), api.OK })
	return twins
}

// reach tells whether a record is at pos or above.
func (all segments) reach(pos int) bool {
	found := false
stripes:
	for _, s := range all {
		for there := range s.All() {
			if there >= pos {
				found = true
				break stripes
			}
		}
	}
	return found
}

// trim takes away what is below pos where there is room to say so.
func (all segments) trim(pos int) {
	all.each(func(s *seg.Seg) (*seg.Seg, api.Errno) {
		s.Trim(pos)
		return s, api.OK
	})
}

// seal ends an epoch where it is not ended yet, up to the first one that has no room to say so.
func (all segments) seal(epoch int) api.Errno {
	_, e := all.each(func(s *seg.Seg) (*seg.Seg, api.Errno) {
		if s.Sealed() >= epoch {
			return s, api.OK
		}
		_, e := s.Seal(epoch)
		return s, e
	})
	return e
}

// cut answers segments that have nothing at pos and above; these stay as they are.
func (all segments) cut(pos int) (segments, api.Errno) {
	return all.twins().each(func(s *seg.Seg) (*seg.Seg, api.Errno) { return s, s.Cut(pos) })
}
