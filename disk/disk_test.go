package disk_test

import (
	"fmt"
	"iter"
	"math"
	"slices"
	"strings"
	"testing"
	"unsafe"

	"landau/api"
	"landau/disk"
)

// most is the greatest room that a disk may have.
const most = 1 << 20

// seen tells what a sequence goes over.
func seen(seq iter.Seq2[int, string]) string {
	var out []string
	for place, line := range seq {
		out = append(out, fmt.Sprintf("%d:%q", place, line))
	}
	return strings.Join(out, " ")
}

// told tells all that a disk tells.
func told(d *disk.Disk) string {
	return fmt.Sprintf("%s | %d lines, %d wait, %d bytes", seen(d.Lines()), d.Len(), d.Waits(), d.Used())
}

// holds tells what a disk ought to tell that has the lines lasts, and behind them waits.
func holds(lasts, waits []string) string {
	var out []string
	used := 0
	for place, line := range slices.Concat(lasts, waits) {
		out = append(out, fmt.Sprintf("%d:%q", place, line))
		used += len(line) + 1
	}
	return fmt.Sprintf("%s | %d lines, %d wait, %d bytes", strings.Join(out, " "), len(out), len(waits), used)
}

// fresh makes a disk of a room that New takes.
func fresh(t testing.TB, room int) *disk.Disk {
	t.Helper()
	d, e := disk.New(room)
	if e != api.OK || d == nil {
		t.Fatalf("P301: New(%d) = %v, %v", room, d, e)
	}
	return d
}

// made makes a disk with lines that last, and lines behind them that wait.
func made(t testing.TB, room int, lasts, waits []string) *disk.Disk {
	t.Helper()
	d := fresh(t, room)
	write(t, d, lasts...)
	d.Sync()
	write(t, d, waits...)
	return d
}

// write writes lines that there is room for.
func write(t testing.TB, d *disk.Disk, lines ...string) {
	t.Helper()
	for _, line := range lines {
		if e := d.Write(line); e != api.OK {
			t.Fatalf("P301: Write(%q) = %v", line, e)
		}
	}
}

func TestNew(t *testing.T) {
	for _, room := range []int{1, 2, 1000, most - 1, most} {
		if got := told(fresh(t, room)); got != holds(nil, nil) {
			t.Errorf("P301: New(%d) has %s", room, got)
		}
	}
	for _, room := range []int{0, -1, most + 1, math.MaxInt, math.MinInt} {
		if d, e := disk.New(room); d != nil || e != api.ErrArg {
			t.Errorf("P301, P4: New(%d) = %v, %v", room, d, e)
		}
	}
}

func TestWrite(t *testing.T) {
	d := fresh(t, 99)
	var lines []string
	for _, line := range []string{"a", "", "p 0 0:1 [] k=v", " ", "\r", "a\x00b", "\xff\xfe", "é", "a", ""} {
		write(t, d, line)
		lines = append(lines, line)
		if got, want := told(d), holds(nil, lines); got != want {
			t.Errorf("P301: behind Write(%q): %s, want %s", line, got, want)
		}
	}
}

func TestWriteOfEachByte(t *testing.T) {
	for c := range 256 {
		want := api.OK
		if c == 0x0a {
			want = api.ErrForm
		}
		one := string([]byte{byte(c)})
		for _, line := range []string{one, one + "ab", "a" + one + "b", "ab" + one} {
			d := made(t, 9, []string{"x"}, []string{"y"})
			lines := []string{"y"}
			if want == api.OK {
				lines = append(lines, line)
			}
			if e := d.Write(line); e != want || told(d) != holds([]string{"x"}, lines) {
				t.Errorf("P301, P5: Write(%q) = %v, %s", line, e, told(d))
			}
		}
	}
}

func TestWriteUpToTheRoom(t *testing.T) {
	for room := 1; room <= 12; room++ {
		for used := range room + 1 {
			for long := range room + 3 {
				var before []string
				if used > 0 {
					before = []string{strings.Repeat("b", used-1)}
				}
				d := made(t, room, before, nil)
				line := strings.Repeat("l", long)
				want, waits := api.OK, []string{line}
				if used+long+1 > room {
					want, waits = api.ErrFull, nil
				}
				if e := d.Write(line); e != want || told(d) != holds(before, waits) {
					t.Errorf("P301, P5: room %d, used %d: Write of %d bytes = %v, %s", room, used, long, e, told(d))
				}
			}
		}
	}
}

func TestWriteTellsFormAheadOfFull(t *testing.T) {
	d := made(t, 3, nil, []string{"ab"})
	for _, line := range []string{"\n", "abc\n", "\n" + strings.Repeat("a", 1000)} {
		if e := d.Write(line); e != api.ErrForm {
			t.Errorf("P6: Write(%q) = %v", line, e)
		}
	}
	if got := told(d); got != holds(nil, []string{"ab"}) {
		t.Errorf("P5: %s", got)
	}
}

func TestGreatestDisk(t *testing.T) {
	long := strings.Repeat("x", most-1)
	d := fresh(t, most)
	if e := d.Write(long + "x"); e != api.ErrFull || d.Len() != 0 || d.Used() != 0 {
		t.Errorf("P301: a line of all the room's bytes: %v", e)
	}
	write(t, d, long)
	if e := d.Write(""); e != api.ErrFull || d.Len() != 1 || d.Used() != most {
		t.Errorf("P301: a line more: %v, %d lines, %d bytes", e, d.Len(), d.Used())
	}
	d = fresh(t, most)
	for range most {
		if e := d.Write(""); e != api.OK {
			t.Fatalf("P301: an empty line: %v", e)
		}
	}
	if e := d.Write(""); e != api.ErrFull || d.Len() != most || d.Waits() != most || d.Used() != most {
		t.Errorf("P301: an empty line more: %v, %d lines, %d bytes", e, d.Len(), d.Used())
	}
	d.Crash(most - 1)
	if d.Len() != most-1 || d.Waits() != 0 || d.Used() != most-1 {
		t.Errorf("P301: Crash: %d lines, %d wait, %d bytes", d.Len(), d.Waits(), d.Used())
	}
}

func TestSync(t *testing.T) {
	d := fresh(t, 99)
	d.Sync()
	if got := told(d); got != holds(nil, nil) {
		t.Errorf("P301: Sync of none: %s", got)
	}
	write(t, d, "a", "")
	d.Sync()
	if got := told(d); got != holds([]string{"a", ""}, nil) {
		t.Errorf("P301: Sync: %s", got)
	}
	write(t, d, "bb")
	if got := told(d); got != holds([]string{"a", ""}, []string{"bb"}) {
		t.Errorf("P301: a line behind Sync: %s", got)
	}
	d.Sync()
	d.Sync()
	if got := told(d); got != holds([]string{"a", "", "bb"}, nil) {
		t.Errorf("P301: Sync twice: %s", got)
	}
	d.Crash(0)
	if got := told(d); got != holds([]string{"a", "", "bb"}, nil) {
		t.Errorf("P301: Crash of what lasts: %s", got)
	}
}

// kept tells by the bytes themselves which of the lines that wait are whole when keep bytes stay.
func kept(waits []string, keep int) []string {
	var bytes string
	for _, line := range waits {
		bytes += line + "\n"
	}
	bytes = bytes[:min(max(keep, 0), len(bytes))]
	whole := strings.Split(bytes, "\n")
	return whole[:len(whole)-1]
}

func TestCrash(t *testing.T) {
	for _, lasts := range [][]string{nil, {""}, {"aaaa", "b"}} {
		for _, waits := range [][]string{nil, {""}, {"", "", ""}, {"ccc", "d"}, {"", "e", ""}, {"ffff", "", "g", "hhh"}} {
			keeps := []int{math.MinInt, math.MinInt + 1, -99, -1, math.MaxInt - 1, math.MaxInt, most}
			for keep := range 16 {
				keeps = append(keeps, keep)
			}
			for _, keep := range keeps {
				d := made(t, 99, lasts, waits)
				d.Crash(keep)
				want := slices.Concat(lasts, kept(waits, keep))
				if got := told(d); got != holds(want, nil) {
					t.Errorf("P301: Crash(%d) of %q, %q: %s", keep, lasts, waits, got)
				}
				d.Crash(0)
				if got := told(d); got != holds(want, nil) {
					t.Errorf("P301: Crash(%d) of %q, %q does not last: %s", keep, lasts, waits, got)
				}
			}
		}
	}
}

func TestCrashGivesRoomBack(t *testing.T) {
	d := made(t, 9, []string{"a"}, []string{"b", "cccc"})
	d.Crash(3)
	if e := d.Write("ddddd"); e != api.ErrFull {
		t.Errorf("P301: more than there is room for behind a Crash: %v", e)
	}
	write(t, d, "dddd")
	if got := told(d); got != holds([]string{"a", "b"}, []string{"dddd"}) {
		t.Errorf("P301: %s", got)
	}
}

func TestCut(t *testing.T) {
	all := []string{"aa", "", "b", "cccc"}
	for lines := range len(all) + 1 {
		d := made(t, 99, all, nil)
		if e := d.Cut(lines); e != api.OK || told(d) != holds(all[:lines], nil) {
			t.Errorf("P301: Cut(%d) = %v, %s", lines, e, told(d))
		}
		d.Crash(0)
		if got := told(d); got != holds(all[:lines], nil) {
			t.Errorf("P301: Cut(%d) does not last: %s", lines, got)
		}
	}
	d := made(t, 99, all, nil)
	for _, lines := range []int{-1, 5, math.MinInt, math.MaxInt} {
		if e := d.Cut(lines); e != api.ErrArg || told(d) != holds(all, nil) {
			t.Errorf("P301, P5, P9: Cut(%d) = %v, %s", lines, e, told(d))
		}
	}
}

func TestCutWhileSomeWait(t *testing.T) {
	lasts, waits := []string{"a", "b"}, []string{"c"}
	d := made(t, 99, lasts, waits)
	for lines := -2; lines < 7; lines++ {
		want := api.ErrState
		if lines < 0 || lines > 3 {
			want = api.ErrArg
		}
		if e := d.Cut(lines); e != want || told(d) != holds(lasts, waits) {
			t.Errorf("P301, P5, P6: Cut(%d) = %v, %s", lines, e, told(d))
		}
	}
	d.Sync()
	if e := d.Cut(1); e != api.OK || told(d) != holds([]string{"a"}, nil) {
		t.Errorf("P301: Cut behind Sync: %v, %s", e, told(d))
	}
}

func TestCutGivesRoomBack(t *testing.T) {
	d := made(t, 6, []string{"aa", "bb"}, nil)
	if e := d.Write(""); e != api.ErrFull {
		t.Errorf("P301: %v", e)
	}
	if e := d.Cut(1); e != api.OK {
		t.Errorf("P301: %v", e)
	}
	if e := d.Write("ccc"); e != api.ErrFull {
		t.Errorf("P301: %v", e)
	}
	write(t, d, "cc")
	if got := told(d); got != holds([]string{"aa"}, []string{"cc"}) {
		t.Errorf("P301: %s", got)
	}
}

func TestLinesMayBeLeft(t *testing.T) {
	d := made(t, 99, []string{"a", "b"}, []string{"c"})
	for stop := range 3 {
		calls := 0
		d.Lines()(func(place int, line string) bool {
			if place != calls {
				t.Errorf("P301: place %d, want %d", place, calls)
			}
			calls++
			return place < stop
		})
		if calls != stop+1 {
			t.Errorf("P7: left at %d, went on to %d", stop, calls-1)
		}
	}
}

func TestLinesGoOverWhatWasThen(t *testing.T) {
	lasts, waits := []string{"a", "b"}, []string{"cc", "d"}
	want := seen(made(t, 99, lasts, waits).Lines())
	for name, change := range map[string]func(d *disk.Disk){
		"Write":        func(d *disk.Disk) { d.Write("e") },
		"Sync":         func(d *disk.Disk) { d.Sync() },
		"Crash":        func(d *disk.Disk) { d.Crash(0); d.Write("x"); d.Write("y") },
		"Crash of few": func(d *disk.Disk) { d.Crash(3); d.Write("x") },
		"Cut":          func(d *disk.Disk) { d.Sync(); d.Cut(0); d.Write("x"); d.Write("y") },
	} {
		d := made(t, 99, lasts, waits)
		seq := d.Lines()
		change(d)
		if got := seen(seq); got != want {
			t.Errorf("P7: behind %s: %s", name, got)
		}
		if got := seen(seq); got != want {
			t.Errorf("P7: behind %s, once more: %s", name, got)
		}
		d = made(t, 99, lasts, waits)
		var out []string
		for place, line := range d.Lines() {
			change(d)
			out = append(out, fmt.Sprintf("%d:%q", place, line))
		}
		if got := strings.Join(out, " "); got != want {
			t.Errorf("P7: %s while it is ranged over: %s", name, got)
		}
	}
}

func TestLinesWithinLines(t *testing.T) {
	d := made(t, 99, []string{"a"}, []string{"b"})
	seq := d.Lines()
	got := ""
	for _, outer := range seq {
		for _, inner := range seq {
			got += outer + inner + " "
		}
	}
	if got != "aa ab ba bb " {
		t.Errorf("P7: %s", got)
	}
}

func TestTwin(t *testing.T) {
	lasts, waits := []string{"a", "b"}, []string{"cc", "d"}
	want := holds(lasts, waits)
	if got := told(fresh(t, 9).Twin()); got != holds(nil, nil) {
		t.Errorf("P301: the twin of an empty one: %s", got)
	}
	for name, change := range map[string]func(d *disk.Disk){
		"Write": func(d *disk.Disk) { d.Write("e") },
		"Sync":  func(d *disk.Disk) { d.Sync() },
		"Crash": func(d *disk.Disk) { d.Crash(0); d.Write("x"); d.Write("y") },
		"Cut":   func(d *disk.Disk) { d.Sync(); d.Cut(0); d.Write("x"); d.Write("y") },
	} {
		d := made(t, 13, lasts, waits)
		twin := d.Twin()
		if d == twin || told(twin) != want {
			t.Errorf("P7: a twin: %s", told(twin))
		}
		change(d)
		if got := told(twin); got != want {
			t.Errorf("P7: behind %s of the other: %s", name, got)
		}
		d = made(t, 13, lasts, waits)
		change(d.Twin())
		if got := told(d); got != want {
			t.Errorf("P7: behind %s of its twin: %s", name, got)
		}
	}
}

func TestTwinHasTheSameRoom(t *testing.T) {
	d := made(t, 6, []string{"a"}, []string{"b"}).Twin()
	if e := d.Write("cc"); e != api.ErrFull {
		t.Errorf("P301: more than there is room for: %v", e)
	}
	write(t, d, "c")
	d.Crash(2)
	if got := told(d); got != holds([]string{"a", "b"}, nil) {
		t.Errorf("P301: %s", got)
	}
}

func TestTwinsWriteSideBySide(t *testing.T) {
	d := made(t, 99, []string{"a", "b", "c"}, nil)
	write(t, d, "d", "e")
	twin := d.Twin()
	write(t, d, "1")
	write(t, twin, "2")
	if got := told(d); got != holds([]string{"a", "b", "c"}, []string{"d", "e", "1"}) {
		t.Errorf("P7: %s", got)
	}
	if got := told(twin); got != holds([]string{"a", "b", "c"}, []string{"d", "e", "2"}) {
		t.Errorf("P7: %s", got)
	}
}

func TestWriteKeepsNothingOfItsLine(t *testing.T) {
	memory := []byte("abcdef")
	d := fresh(t, 99)
	write(t, d, unsafe.String(&memory[2], 3))
	for i := range memory {
		memory[i] = '\n'
	}
	if got := told(d); got != holds(nil, []string{"cde"}) {
		t.Errorf("P2: %s", got)
	}
}

// plain is a disk as the document tells it: bytes, of which the first ones last.
type plain struct {
	room         int
	lasts, waits string
}

// step does the same to both disks, and tells both answers.
type step struct {
	name string
	real func(d *disk.Disk) api.Errno
	want func(p *plain) api.Errno
}

func (p *plain) write(line string) api.Errno {
	if strings.Contains(line, "\n") {
		return api.ErrForm
	}
	if len(p.lasts)+len(p.waits)+len(line)+1 > p.room {
		return api.ErrFull
	}
	p.waits += line + "\n"
	return api.OK
}

func (p *plain) sync() {
	p.lasts, p.waits = p.lasts+p.waits, ""
}

func (p *plain) crash(keep int) {
	p.waits = p.waits[:min(max(keep, 0), len(p.waits))]
	p.waits = p.waits[:strings.LastIndexByte(p.waits, '\n')+1]
	p.sync()
}

func (p *plain) cut(lines int) api.Errno {
	all := strings.SplitAfter(p.lasts+p.waits, "\n")
	all = all[:len(all)-1]
	if lines < 0 || lines > len(all) {
		return api.ErrArg
	}
	if p.waits != "" {
		return api.ErrState
	}
	p.lasts = strings.Join(all[:lines], "")
	return api.OK
}

func (p *plain) told() string {
	lines := func(bytes string) []string {
		all := strings.Split(bytes, "\n")
		return all[:len(all)-1]
	}
	return holds(lines(p.lasts), lines(p.waits))
}

// steps are all that the walk may do.
func steps() []step {
	var out []step
	for _, line := range []string{"", "ab", "c\n"} {
		out = append(out, step{fmt.Sprintf("Write %q", line), func(d *disk.Disk) api.Errno { return d.Write(line) }, func(p *plain) api.Errno { return p.write(line) }})
	}
	out = append(out, step{"Sync", func(d *disk.Disk) api.Errno { d.Sync(); return api.OK }, func(p *plain) api.Errno { p.sync(); return api.OK }})
	for _, keep := range []int{-1, 1, 4} {
		out = append(out, step{fmt.Sprint("Crash ", keep), func(d *disk.Disk) api.Errno { d.Crash(keep); return api.OK }, func(p *plain) api.Errno { p.crash(keep); return api.OK }})
	}
	for _, lines := range []int{-1, 0, 1, 2} {
		out = append(out, step{fmt.Sprint("Cut ", lines), func(d *disk.Disk) api.Errno { return d.Cut(lines) }, func(p *plain) api.Errno { return p.cut(lines) }})
	}
	return out
}

// TestAllShortWalks goes every way of a few steps, on a twin each, and holds each against the plain disk.
func TestAllShortWalks(t *testing.T) {
	all := steps()
	var walk func(d *disk.Disk, p plain, way []string)
	walk = func(d *disk.Disk, p plain, way []string) {
		if len(way) == 5 || t.Failed() {
			return
		}
		for _, s := range all {
			twin, next, gone := d.Twin(), p, append(slices.Clone(way), s.name)
			got, want := s.real(twin), s.want(&next)
			if got != want || told(twin) != next.told() {
				t.Errorf("P301: %s: %v, %s; want %v, %s", strings.Join(gone, ", "), got, told(twin), want, next.told())
				return
			}
			walk(twin, next, gone)
		}
	}
	walk(fresh(t, 7), plain{room: 7}, nil)
}
