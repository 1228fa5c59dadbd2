package maint

import "landau/disk"

// Disks answers the log's disks: those of its segments, then its own. No face tells their lines, and the document names them.
func (l *Log) Disks() []*disk.Disk {
	var out []*disk.Disk
	for _, s := range l.segs {
		out = append(out, s.Disk())
	}
	return append(out, l.own)
}
