package seg_test

import (
	"fmt"
	"iter"
	"math"
	"slices"
	"strings"
	"testing"
	"unsafe"

	"landau/api"
	"landau/disk"
	"landau/rec"
	"landau/seg"
	"landau/vec"
)

// most is the greatest position, and the greatest epoch.
const most = 1<<31 - 1

// record answers a record that may be put, another one for each n.
func record(n int) rec.Record {
	return rec.Record{Site: 1, Seq: n, Dep: vec.Vec{3, n - 1}, Key: "k", Val: fmt.Sprint(n)}
}

// put writes the line of record(n) at pos.
func put(pos, n int) string {
	return fmt.Sprintf("p %d 1:%d %s k=%d", pos, n, vec.Text(vec.Vec{3, n - 1}), n)
}

// written makes a disk that has lines, none of which lasts.
func written(t testing.TB, room int, lines ...string) *disk.Disk {
	t.Helper()
	d, e := disk.New(room)
	if e != api.OK {
		t.Fatalf("New(%d) = %v", room, e)
	}
	for _, line := range lines {
		if e := d.Write(line); e != api.OK {
			t.Fatalf("Write(%q) = %v", line, e)
		}
	}
	return d
}

// opened opens a disk.
func opened(t testing.TB, d *disk.Disk) *seg.Seg {
	t.Helper()
	s, e := seg.Open(d)
	if s == nil || e != api.OK {
		t.Fatalf("P401: Open = %v, %v", s, e)
	}
	return s
}

// made makes a segment of lines that last.
func made(t testing.TB, room int, lines ...string) *seg.Seg {
	t.Helper()
	d := written(t, room, lines...)
	d.Sync()
	return opened(t, d)
}

// seen tells what a sequence goes over.
func seen(seq iter.Seq2[int, rec.Record]) string {
	var out []string
	for pos, r := range seq {
		out = append(out, fmt.Sprintf("%d=%s", pos, rec.Text(r)))
	}
	return strings.Join(out, ", ")
}

// held tells the lines that a segment's disk has, and how many of them wait.
func held(s *seg.Seg) string {
	var out []string
	for _, line := range s.Disk().Lines() {
		out = append(out, line)
	}
	return fmt.Sprintf("%q %d", out, s.Disk().Waits())
}

// told tells all that a segment tells.
func told(s *seg.Seg) string {
	out := fmt.Sprintf("%s | sealed %d | %s |", seen(s.All()), s.Sealed(), held(s))
	for _, pos := range []int{math.MinInt, -1, 0, 1, 2, 3, 4, 5, 6, 7, 8, most - 1, most, most + 1, math.MaxInt} {
		r, e := s.Get(pos)
		out += fmt.Sprintf(" %d:%s,%v,%v", pos, rec.Text(r), e, s.Lasts(pos))
	}
	return out
}

// values tells the positions that have a record, with its value.
func values(s *seg.Seg) string {
	var out []string
	for pos, r := range s.All() {
		out = append(out, fmt.Sprintf("%d=%s", pos, r.Val))
	}
	return strings.Join(out, " ")
}

func TestOpenTakesEachKindOfLine(t *testing.T) {
	for _, c := range []struct {
		lines  []string
		values string
		sealed int
		end    int // what a Seal tells then
	}{
		{nil, "", 0, 0},
		{[]string{put(0, 1)}, "0=1", 0, 1},
		{[]string{put(5, 1), put(0, 2), put(3, 3)}, "0=2 3=3 5=1", 0, 6},
		{[]string{put(most, 1)}, fmt.Sprint(most, "=1"), 0, most + 1},
		{[]string{"p 4 7:1048576 [1 2 3 4 5 6 7 1048575] abcdefgh=~~~~~~~~~~~~~~~~"}, "4=~~~~~~~~~~~~~~~~", 0, 5},
		{[]string{"p 4 0:1 [] 0="}, "4=", 0, 5},
		{[]string{"p 4 0:1 [0 0 3] 0=p:4"}, "4=p:4", 0, 5},
		{[]string{"s 1"}, "", 1, 0},
		{[]string{"s 3", put(2, 1), "s 4"}, "2=1", 4, 3},
		{[]string{"c 0"}, "", 0, 0},
		{[]string{"c 0", "c 0", "c 2147483647"}, "", 0, 0},
		{[]string{put(0, 1), put(1, 2), put(2, 3), "c 1"}, "0=1", 0, 1},
		{[]string{put(0, 1), put(1, 2), put(2, 3), "c 3"}, "0=1 1=2 2=3", 0, 3},
		{[]string{put(0, 1), put(1, 2), put(2, 3), "c 0"}, "", 0, 0},
		{[]string{put(0, 1), put(1, 2), "c 1", put(1, 3)}, "0=1 1=3", 0, 2},
		{[]string{put(0, 1), put(1, 2), put(2, 3), "t 1"}, "1=2 2=3", 0, 3},
		{[]string{put(0, 1), put(1, 2), "t 2"}, "", 0, 2},
		{[]string{put(0, 1), put(1, 2), "t 2", put(2, 3)}, "2=3", 0, 3},
		{[]string{"t 1", "t 2", "t 7"}, "", 0, 7},
		{[]string{"t 5", put(5, 1), "c 2", put(5, 2)}, "5=2", 0, 6},
		{[]string{"t 5", put(6, 1), "c 2"}, "", 0, 5},
		{[]string{"t 2147483647", put(most, 1)}, fmt.Sprint(most, "=1"), 0, most + 1},
	} {
		s := opened(t, written(t, 999, c.lines...))
		if got := values(s); got != c.values || s.Sealed() != c.sealed {
			t.Errorf("P401: Open of %q: %s, sealed %d", c.lines, got, s.Sealed())
		}
		if got, want := held(s), fmt.Sprintf("%q %d", c.lines, len(c.lines)); got != want && len(c.lines) > 0 {
			t.Errorf("P401: Open changed lines that are right: %s, want %s", got, want)
		}
		if end, e := s.Seal(c.sealed + 1); end != c.end || e != api.OK {
			t.Errorf("P401: Seal behind %q = %d, %v, want %d", c.lines, end, e, c.end)
		}
	}
}

func TestOpenReadsWholeRecords(t *testing.T) {
	r := rec.Record{Site: 7, Seq: 9, Dep: vec.Vec{1, 0, 3}, Key: "key9", Val: "a=b]:~!"}
	got, e := opened(t, written(t, 99, "p 3 7:9 [1 0 3] key9=a=b]:~!")).Get(3)
	if e != api.OK || !rec.Same(got, r) {
		t.Errorf("P401: Get(3) = %v, %v", got, e)
	}
}

// wrong holds lines that may not stand behind put(2, 1), `s 3`, `t 2`.
func wrong() []string {
	text := rec.Text(record(1))
	return []string{
		"", " ", "p", "s", "c", "t", "p ", "s ", "c ", "t ", "x 1", "P 9 " + text, "S 4", "ps 4", " s 4", "s4", "s\t4", "s  4", "s 4 ", "s 4 4", "s 4\r",
		"s 04", "s +4", "s -4", "s 4x", "s 0x4", "s 4.", "s x", "s 2147483648", "s 4294967300", "s 18446744073709551620", "s " + strings.Repeat("9", 99),
		"c 01", "c -1", "c 1 2", "c 1 ", "c  1", "c 2147483648", "t 03", "t -3", "t 3 3", "t 3 ", "t  3", "t 2147483648",
		"p 9", "p 9 ", "p  9 " + text, "p 9  " + text, "p 9 " + text + " ", "p 09 " + text, "p -9 " + text, "p +9 " + text, "p x " + text, "p " + text, "p 2147483648 " + text, "p 18446744073709551625 " + text,
		"p 9 0:1 [1] k=v", "p 9 8:1 [] k=v", "p 9 0:0 [] k=v", "p 9 0:1 [] K=v", "p 9 0:1 [] =v", "p 9 0:1 [] k", "p 9 0:1 [0] k=v", "p 9 0:1 [0 1048577] k=v", "p 9 0:1 [] k=12345678901234567", "p 9 0:1 [] k=a b",
		put(2, 1), put(2, 4), put(1, 1), put(0, 1),
		"s 0", "s 1", "s 2", "s 3", "t 0", "t 1", "t 2",
	}
}

func TestOpenEndsAtTheFirstWrongLine(t *testing.T) {
	good := []string{put(2, 1), "s 3", "t 2"}
	want := told(made(t, 999, good...))
	for _, line := range wrong() {
		for _, behind := range [][]string{nil, {put(7, 2)}, {"s 8", "t 8", "c 0"}, {line, line}} {
			for synced := range 2 {
				d := written(t, 999, slices.Concat(good, []string{line}, behind)...)
				if synced == 1 {
					d.Sync()
				}
				if got := told(opened(t, d)); got != want {
					t.Errorf("P401: Open up to %q: %s, want %s", line, got, want)
				}
			}
		}
	}
}

func TestOpenCutsAWrongFirstLine(t *testing.T) {
	for _, line := range []string{"", "x", "s 0", "t 0", "p 1", "s 01"} {
		s := opened(t, written(t, 99, line, put(0, 1)))
		if got := held(s); got != "[] 0" || values(s) != "" || s.Sealed() != 0 {
			t.Errorf("P401: Open of %q first: %s", line, got)
		}
	}
}

func TestOpenIsOnTheDiskItWasGiven(t *testing.T) {
	d := written(t, 99, put(0, 1))
	s := opened(t, d)
	if s.Disk() != d {
		t.Error("P401: Disk is not the one that was opened")
	}
	if s.Put(1, 1, record(2)); d.Len() != 2 {
		t.Error("P401: a Put does not go to the disk that was opened")
	}
	if one, two := opened(t, d), opened(t, d); one == two {
		t.Error("P7: Open answers one segment twice")
	}
}

func TestPutWritesALineThatWaits(t *testing.T) {
	s := made(t, 999)
	var lines []string
	for i, pos := range []int{3, 0, most, 7, 1} {
		if e := s.Put([]int{1, 1, most, 5, 2}[i], pos, record(i+1)); e != api.OK {
			t.Fatalf("P401: Put at %d = %v", pos, e)
		}
		lines = append(lines, put(pos, i+1))
		if got, want := held(s), fmt.Sprintf("%q %d", lines, len(lines)); got != want {
			t.Errorf("P401: behind Put at %d: %s, want %s", pos, got, want)
		}
		if r, e := s.Get(pos); e != api.OK || !rec.Same(r, record(i+1)) || s.Lasts(pos) {
			t.Errorf("P401: Get(%d) = %v, %v; lasts %v", pos, r, e, s.Lasts(pos))
		}
	}
	if got := values(s); got != fmt.Sprintf("0=2 1=5 3=1 7=4 %d=3", most) {
		t.Errorf("P401: All: %s", got)
	}
}

func TestPutRefuses(t *testing.T) {
	lines := []string{put(5, 1), "s 4", "t 3"}
	room := 0
	for _, line := range lines {
		room += len(line) + 1
	}
	bad := record(1)
	bad.Key = "K"
	for _, c := range []struct {
		epoch, pos int
		r          rec.Record
		want       api.Errno
	}{
		{0, 9, record(1), api.ErrArg},
		{-1, 9, record(1), api.ErrArg},
		{math.MinInt, 9, record(1), api.ErrArg},
		{most + 1, 9, record(1), api.ErrArg},
		{math.MaxInt, 9, record(1), api.ErrArg},
		{5, -1, record(1), api.ErrArg},
		{5, math.MinInt, record(1), api.ErrArg},
		{5, most + 1, record(1), api.ErrArg},
		{5, math.MaxInt, record(1), api.ErrArg},
		{1, -1, bad, api.ErrArg},
		{0, 5, bad, api.ErrArg},
		{1, 9, record(1), api.ErrSealed},
		{4, 9, record(1), api.ErrSealed},
		{4, 0, record(1), api.ErrSealed},
		{4, 5, bad, api.ErrSealed},
		{5, 0, record(1), api.ErrTrimmed},
		{5, 2, record(1), api.ErrTrimmed},
		{5, 2, bad, api.ErrTrimmed},
		{5, 5, record(1), api.ErrTwice},
		{most, 5, record(2), api.ErrTwice},
		{5, 5, bad, api.ErrTwice},
		{5, 9, bad, api.ErrName},
		{5, 9, rec.Record{}, api.ErrArg},
		{5, 9, rec.Record{Site: 8, Seq: 1, Key: "k"}, api.ErrArg},
		{5, 9, rec.Record{Seq: 1, Dep: vec.Vec{1}, Key: "k"}, api.ErrOrder},
		{5, 9, rec.Record{Seq: 1, Dep: make(vec.Vec, 9), Key: "k"}, api.ErrLong},
		{5, 9, rec.Record{Seq: 1, Key: "k", Val: "a\nb"}, api.ErrForm},
		{5, 9, rec.Record{Seq: 1, Key: "k", Val: strings.Repeat("v", 17)}, api.ErrLong},
		{5, 3, record(1), api.ErrFull},
		{5, most, record(1), api.ErrFull},
		{most, 9, rec.Record{Site: 7, Seq: 1, Key: "k"}, api.ErrFull},
	} {
		s := made(t, room, lines...)
		before := told(s)
		if e := s.Put(c.epoch, c.pos, c.r); e != c.want {
			t.Errorf("P401, P6: Put(%d, %d, %v) = %v, want %v", c.epoch, c.pos, c.r, e, c.want)
		}
		if got := told(s); got != before {
			t.Errorf("P5: Put(%d, %d, %v): %s, was %s", c.epoch, c.pos, c.r, got, before)
		}
	}
}

func TestPutUpToTheRoom(t *testing.T) {
	need := len(put(12, 3)) + 1
	for spare := -2; spare <= 2; spare++ {
		s := made(t, need+spare)
		want, size := api.OK, 1
		if spare < 0 {
			want, size = api.ErrFull, 0
		}
		if e := s.Put(1, 12, record(3)); e != want || s.Disk().Len() != size || (s.Disk().Waits() == 1) != (size == 1) {
			t.Errorf("P401: Put with %d bytes to spare = %v", spare, e)
		}
		if _, e := s.Get(12); (e == api.OK) != (size == 1) {
			t.Errorf("P5: Get behind Put with %d bytes to spare = %v", spare, e)
		}
	}
}

func TestPutOfEachRecordThatCheckTakes(t *testing.T) {
	for _, r := range []rec.Record{
		{Seq: 1, Key: "a"},
		{Seq: 1, Dep: vec.Vec{}, Key: "a"},
		{Seq: 1, Dep: make(vec.Vec, 8), Key: "a"},
		{Site: 7, Seq: api.MaxSeq, Dep: vec.Vec{1, 2, 3, 4, 5, 6, api.MaxSeq, api.MaxSeq - 1}, Key: "09azaz09", Val: "0123456789abcdef"},
		{Site: 2, Seq: 1, Dep: vec.Vec{0, 1, 0, 0}, Key: "k", Val: "p:]=[~!s"},
	} {
		s := made(t, 999)
		if e := s.Put(1, 4, r); e != api.OK {
			t.Errorf("P401: Put of %v = %v", r, e)
		}
		for name, x := range map[string]*seg.Seg{"put": s, "opened again": opened(t, s.Disk()), "twin": s.Twin()} {
			if got, e := x.Get(4); e != api.OK || !rec.Same(got, r) {
				t.Errorf("P401, P402: %s: %v, %v; want %v", name, got, e, r)
			}
			if x.Disk().Len() != 1 {
				t.Errorf("P402: %s: its line is gone", name)
			}
		}
	}
}

func TestGet(t *testing.T) {
	s := made(t, 99)
	for pos, want := range map[int]api.Errno{math.MinInt: api.ErrTrimmed, -1: api.ErrTrimmed, 0: api.ErrUnwritten, 1: api.ErrUnwritten, most + 1: api.ErrUnwritten, math.MaxInt: api.ErrUnwritten} {
		if r, e := s.Get(pos); e != want || !rec.Same(r, rec.Record{}) {
			t.Errorf("P401, P4: Get(%d) of none = %v, %v", pos, r, e)
		}
	}
	s = made(t, 999, put(0, 1), put(3, 2), put(5, 3), "t 3")
	for pos, want := range map[int]api.Errno{-1: api.ErrTrimmed, 0: api.ErrTrimmed, 1: api.ErrTrimmed, 2: api.ErrTrimmed, 3: api.OK, 4: api.ErrUnwritten, 5: api.OK, 6: api.ErrUnwritten} {
		r, e := s.Get(pos)
		if e != want || e != api.OK && !rec.Same(r, rec.Record{}) || e == api.OK && !rec.Same(r, record((pos+1)/2)) {
			t.Errorf("P401, P4: Get(%d) = %v, %v", pos, r, e)
		}
	}
}

func TestSeal(t *testing.T) {
	for _, c := range []struct {
		lines []string
		epoch int
		end   int
		want  api.Errno
	}{
		{nil, 1, 0, api.OK},
		{nil, most, 0, api.OK},
		{nil, 0, 0, api.ErrArg},
		{nil, -1, 0, api.ErrArg},
		{nil, math.MinInt, 0, api.ErrArg},
		{nil, most + 1, 0, api.ErrArg},
		{nil, math.MaxInt, 0, api.ErrArg},
		{[]string{"s 5"}, 6, 0, api.OK},
		{[]string{"s 5"}, 5, 0, api.ErrSealed},
		{[]string{"s 5"}, 1, 0, api.ErrSealed},
		{[]string{"s 5"}, 0, 0, api.ErrArg},
		{[]string{"s 2147483647"}, most, 0, api.ErrSealed},
		{[]string{"s 2147483647"}, most + 1, 0, api.ErrArg},
		{[]string{put(6, 1), put(2, 2)}, 1, 7, api.OK},
		{[]string{put(0, 1)}, 1, 1, api.OK},
		{[]string{put(most, 1)}, 1, most + 1, api.OK},
		{[]string{put(6, 1), put(2, 2), "c 6"}, 1, 3, api.OK},
		{[]string{put(6, 1), put(2, 2), "c 2"}, 1, 0, api.OK},
		{[]string{put(6, 1), put(2, 2), "t 6"}, 1, 7, api.OK},
		{[]string{put(6, 1), put(2, 2), "t 7"}, 1, 7, api.OK},
		{[]string{put(6, 1), put(2, 2), "t 9"}, 1, 9, api.OK},
		{[]string{put(6, 1), put(2, 2), "t 4", "c 6"}, 1, 4, api.OK},
	} {
		s := opened(t, written(t, 999, c.lines...))
		before := told(s)
		end, e := s.Seal(c.epoch)
		if end != c.end || e != c.want {
			t.Errorf("P401: Seal(%d) of %q = %d, %v", c.epoch, c.lines, end, e)
		}
		if e != api.OK && told(s) != before {
			t.Errorf("P5: Seal(%d) of %q: %s", c.epoch, c.lines, told(s))
		}
		if e == api.OK {
			lines := append(slices.Clone(c.lines), fmt.Sprint("s ", c.epoch))
			if got := held(s); s.Sealed() != c.epoch || got != fmt.Sprintf("%q 0", lines) {
				t.Errorf("P401: behind Seal(%d): %d, %s", c.epoch, s.Sealed(), got)
			}
		}
	}
}

func TestSealRefusesPutsUpToItsEpoch(t *testing.T) {
	s := made(t, 999)
	s.Put(3, 0, record(1))
	s.Seal(3)
	for epoch, want := range map[int]api.Errno{1: api.ErrSealed, 2: api.ErrSealed, 3: api.ErrSealed, 4: api.OK, 5: api.OK} {
		if e := s.Put(epoch, epoch, record(2)); e != want {
			t.Errorf("P401: Put of epoch %d behind Seal(3) = %v", epoch, e)
		}
	}
	if _, e := s.Get(0); e != api.OK {
		t.Errorf("P401: what was there ahead of a Seal: %v", e)
	}
}

func TestCut(t *testing.T) {
	lines := []string{put(4, 1), put(1, 2), "t 1", put(2, 3), put(most, 4)}
	for _, c := range []struct {
		pos  int
		want string
	}{
		{0, ""}, {1, ""}, {2, "1=2"}, {3, "1=2 2=3"}, {4, "1=2 2=3"}, {5, "1=2 2=3 4=1"}, {most, "1=2 2=3 4=1"},
	} {
		s := opened(t, written(t, 999, lines...))
		if e := s.Cut(c.pos); e != api.OK || values(s) != c.want {
			t.Errorf("P401: Cut(%d) = %v, %s", c.pos, e, values(s))
		}
		if got, want := held(s), fmt.Sprintf("%q 0", append(slices.Clone(lines), fmt.Sprint("c ", c.pos))); got != want {
			t.Errorf("P401: Cut(%d): %s, want %s", c.pos, got, want)
		}
		if got, want := s.Put(1, 0, record(9)), api.ErrTrimmed; got != want {
			t.Errorf("P401: the trim behind Cut(%d): %v", c.pos, got)
		}
		for pos := max(c.pos, 1); pos < 6; pos++ {
			if _, e := s.Get(pos); e != api.ErrUnwritten || s.Lasts(pos) {
				t.Errorf("P401: Get(%d) behind Cut(%d) = %v", pos, c.pos, e)
			}
			if e := s.Put(1, pos, record(9)); e != api.OK {
				t.Errorf("P401: Put at %d behind Cut(%d) = %v", pos, c.pos, e)
			}
		}
	}
}

func TestCutRefuses(t *testing.T) {
	for _, room := range []int{999, len(put(4, 1)) + 1} {
		for _, pos := range []int{-1, math.MinInt, most + 1, math.MaxInt} {
			s := opened(t, written(t, room, put(4, 1)))
			before := told(s)
			if e := s.Cut(pos); e != api.ErrArg || told(s) != before {
				t.Errorf("P401, P5: Cut(%d) = %v, %s", pos, e, told(s))
			}
		}
	}
}

func TestTrim(t *testing.T) {
	lines := []string{put(4, 1), put(0, 2), "t 1", put(2, 3), put(most, 4)}
	last := fmt.Sprint(most, "=4")
	for _, c := range []struct {
		pos  int
		want string
	}{
		{2, "2=3 4=1 " + last}, {3, "4=1 " + last}, {4, "4=1 " + last}, {5, last}, {most, last},
	} {
		s := opened(t, written(t, 999, lines...))
		s.Trim(c.pos)
		if got, want := held(s), fmt.Sprintf("%q 0", append(slices.Clone(lines), fmt.Sprint("t ", c.pos))); got != want || values(s) != c.want {
			t.Errorf("P401: Trim(%d): %s, %s, want %s", c.pos, values(s), got, want)
		}
		for _, pos := range []int{-1, 0, 1, c.pos - 1} {
			if _, e := s.Get(pos); e != api.ErrTrimmed || s.Lasts(pos) {
				t.Errorf("P401: Get(%d) behind Trim(%d) = %v", pos, c.pos, e)
			}
			if e := s.Put(1, max(pos, 0), record(9)); e != api.ErrTrimmed {
				t.Errorf("P401: Put at %d behind Trim(%d) = %v", pos, c.pos, e)
			}
		}
		if e := s.Put(1, c.pos, record(9)); e == api.ErrTrimmed {
			t.Errorf("P401: Put at the trim %d = %v", c.pos, e)
		}
	}
}

func TestTrimThatDoesNothing(t *testing.T) {
	lines := []string{put(4, 1), "t 3", put(5, 2)}
	for _, pos := range []int{math.MinInt, -1, 0, 1, 2, 3, most + 1, math.MaxInt} {
		s := opened(t, written(t, 999, lines...))
		before := told(s)
		s.Trim(pos)
		if got := told(s); got != before {
			t.Errorf("P401: Trim(%d): %s, was %s", pos, got, before)
		}
	}
}

// TestShortLinesUpToTheRoom holds Seal, Cut, Trim against disks that just have room for them, or just not.
func TestShortLinesUpToTheRoom(t *testing.T) {
	first := put(2, 1)
	for _, n := range []int{3, 10, most} {
		for name, call := range map[string]func(s *seg.Seg) api.Errno{
			"s": func(s *seg.Seg) api.Errno { _, e := s.Seal(n); return e },
			"c": func(s *seg.Seg) api.Errno { return s.Cut(n) },
			"t": func(s *seg.Seg) api.Errno { s.Trim(n); return api.OK },
		} {
			line := fmt.Sprint(name, " ", n)
			for spare := -2; spare <= 2; spare++ {
				s := opened(t, written(t, len(first)+len(line)+2+spare, first))
				before := told(s)
				e := call(s)
				switch {
				case spare >= 0 && (e != api.OK || held(s) != fmt.Sprintf("%q 0", []string{first, line})):
					t.Errorf("P401: %q with %d bytes to spare: %v, %s", line, spare, e, held(s))
				case spare < 0 && (name != "t" && e != api.ErrFull || told(s) != before):
					t.Errorf("P401, P5: %q with %d bytes to spare: %v, %s", line, spare, e, told(s))
				}
			}
		}
	}
}

func TestSealTellsNothingWhenFull(t *testing.T) {
	s := opened(t, written(t, len(put(6, 1))+2, put(6, 1)))
	if end, e := s.Seal(1); end != 0 || e != api.ErrFull || s.Sealed() != 0 {
		t.Errorf("P4: Seal = %d, %v", end, e)
	}
}

func TestLasts(t *testing.T) {
	lasts := func(s *seg.Seg) string {
		out := ""
		for pos := -1; pos < 6; pos++ {
			if s.Lasts(pos) {
				out += fmt.Sprint(pos, " ")
			}
		}
		return out
	}
	d := written(t, 999, put(4, 1))
	d.Sync()
	d.Write(put(1, 2))
	s := opened(t, d)
	for _, c := range []struct {
		name string
		do   func()
		want string
	}{
		{"Open", func() {}, "4 "},
		{"Put", func() { s.Put(1, 0, record(3)) }, "4 "},
		{"Sync", func() { d.Sync() }, "0 1 4 "},
		{"Put again", func() { s.Put(1, 2, record(4)) }, "0 1 4 "},
		{"a Trim that does nothing", func() { s.Trim(0) }, "0 1 4 "},
		{"a Cut that is refused", func() { s.Cut(-1) }, "0 1 4 "},
		{"a Seal that is refused", func() { s.Seal(0) }, "0 1 4 "},
		{"Seal", func() { s.Seal(1) }, "0 1 2 4 "},
		{"Put behind Seal", func() { s.Put(2, 5, record(5)) }, "0 1 2 4 "},
		{"Trim", func() { s.Trim(1) }, "1 2 4 5 "},
		{"Put behind Trim", func() { s.Put(2, 3, record(6)) }, "1 2 4 5 "},
		{"Cut", func() { s.Cut(4) }, "1 2 3 "},
		{"Put where it was cut", func() { s.Put(2, 4, record(7)) }, "1 2 3 "},
		{"Crash", func() { d.Crash(0) }, "1 2 3 "},
	} {
		if c.do(); lasts(s) != c.want {
			t.Errorf("P401: behind %s: %s, want %s", c.name, lasts(s), c.want)
		}
	}
	for _, pos := range []int{math.MinInt, most + 1, math.MaxInt} {
		if s.Lasts(pos) {
			t.Errorf("P401: Lasts(%d)", pos)
		}
	}
}

func TestAllMayBeLeft(t *testing.T) {
	s := made(t, 999, put(5, 1), put(2, 2), put(9, 3))
	for stop := range 3 {
		calls := 0
		s.All()(func(int, rec.Record) bool { calls++; return calls <= stop })
		if calls != stop+1 {
			t.Errorf("P7: left at %d, went on to %d", stop, calls-1)
		}
	}
	seq := s.All()
	got := ""
	for outer := range seq {
		for inner := range seq {
			got += fmt.Sprint(outer, inner, " ")
		}
	}
	if got != "2 2 2 5 2 9 5 2 5 5 5 9 9 2 9 5 9 9 " {
		t.Errorf("P7: ranged over within itself: %s", got)
	}
}

// changes are the calls that change a segment of changed.
func changes() map[string]func(s *seg.Seg) {
	return map[string]func(s *seg.Seg){
		"Put":       func(s *seg.Seg) { s.Put(9, 0, record(8)); s.Put(9, 3, record(9)); s.Put(9, 8, record(7)) },
		"Cut":       func(s *seg.Seg) { s.Cut(1); s.Put(9, 5, record(8)); s.Put(9, 1, record(9)) },
		"Trim":      func(s *seg.Seg) { s.Trim(4); s.Put(9, 4, record(8)); s.Put(9, 6, record(9)) },
		"Seal":      func(s *seg.Seg) { s.Seal(7) },
		"Sync":      func(s *seg.Seg) { s.Disk().Sync() },
		"Crash":     func(s *seg.Seg) { s.Disk().Crash(0) },
		"disk.Cut":  func(s *seg.Seg) { s.Disk().Sync(); s.Disk().Cut(0) },
		"Open anew": func(s *seg.Seg) { s.Disk().Write("x"); seg.Open(s.Disk()) },
	}
}

// changed makes a segment with some of all.
func changed(t testing.TB) *seg.Seg {
	t.Helper()
	s := made(t, 999, put(5, 1), "s 2", "t 1", put(2, 2))
	s.Put(3, 4, record(3))
	s.Put(3, 1, record(4))
	return s
}

func TestAllGoesOverWhatWasThen(t *testing.T) {
	want := seen(changed(t).All())
	for name, change := range changes() {
		s := changed(t)
		seq := s.All()
		change(s)
		for range 2 {
			if got := seen(seq); got != want {
				t.Errorf("P7: behind %s: %s, want %s", name, got, want)
			}
		}
		s = changed(t)
		var out []string
		for pos, r := range s.All() {
			change(s)
			out = append(out, fmt.Sprintf("%d=%s", pos, rec.Text(r)))
		}
		if got := strings.Join(out, ", "); got != want {
			t.Errorf("P7: %s while it is ranged over: %s", name, got)
		}
	}
}

func TestTwin(t *testing.T) {
	want := told(changed(t))
	for name, change := range changes() {
		s := changed(t)
		twin := s.Twin()
		if twin == s || twin.Disk() == s.Disk() || told(twin) != want {
			t.Errorf("P401, P7: a twin: %s, want %s", told(twin), want)
		}
		change(s)
		if got := told(twin); got != want {
			t.Errorf("P7: behind %s of the other: %s", name, got)
		}
		after := told(s)
		s = changed(t)
		twin = s.Twin()
		change(twin)
		if got := told(s); got != want {
			t.Errorf("P7: behind %s of its twin: %s", name, got)
		}
		if got := told(twin); got != after {
			t.Errorf("P401: %s of a twin: %s, want %s", name, got, after)
		}
	}
}

func TestTwinHasTheSameRoom(t *testing.T) {
	s := opened(t, written(t, len(put(1, 1))+len(put(2, 2))+2, put(1, 1))).Twin()
	if e := s.Put(1, 10, record(2)); e != api.ErrFull {
		t.Errorf("P401: Put with no room on a twin = %v", e)
	}
	if e := s.Put(1, 2, record(2)); e != api.OK || s.Disk().Waits() != 2 {
		t.Errorf("P401: Put on a twin = %v, %d wait", e, s.Disk().Waits())
	}
}

func TestPutKeepsNothingOfItsRecord(t *testing.T) {
	whole := vec.Vec{3, 1, 77, 77}
	memory := []byte("keyval")
	r := rec.Record{Site: 1, Seq: 2, Dep: whole[:2], Key: unsafe.String(&memory[0], 3), Val: unsafe.String(&memory[3], 3)}
	want := rec.Text(r)
	s := made(t, 99)
	if e := s.Put(1, 0, r); e != api.OK || fmt.Sprint(whole) != "[3 1 77 77]" || string(memory) != "keyval" {
		t.Errorf("P2: Put changed what it was given: %v, %v, %s", e, whole, memory)
	}
	for i := range whole {
		whole[i] = 9
	}
	for i := range memory {
		memory[i] = '\n'
	}
	if got := seen(s.All()); got != "0="+want || held(s) != fmt.Sprintf("%q 1", []string{"p 0 " + want}) {
		t.Errorf("P2: Put keeps what it was given: %s, %s", got, held(s))
	}
}

// scribble writes over a list and its spare room.
func scribble(v vec.Vec) {
	v = v[:cap(v)]
	for i := range v {
		v[i] = 99
	}
}

func TestAnswersAreNewMemory(t *testing.T) {
	for name, s := range map[string]*seg.Seg{"opened": made(t, 99, put(0, 1), put(1, 2)), "put": changed(t), "twin": changed(t).Twin()} {
		want, seq := told(s), s.All()
		twin := s.Twin()
		for pos := range 6 {
			r, _ := s.Get(pos)
			scribble(r.Dep)
		}
		for _, r := range s.All() {
			scribble(r.Dep)
		}
		for range 2 {
			for _, r := range seq {
				if slices.Contains(r.Dep, 99) {
					t.Errorf("P2: a sequence of one %s shares memory: %v", name, r)
				}
				scribble(r.Dep)
			}
		}
		if told(s) != want || told(twin) != want {
			t.Errorf("P2: answers of one %s share memory: %s", name, told(s))
		}
	}
}

func TestFullDisk(t *testing.T) {
	s := made(t, 1<<20)
	n := 0
	for ; ; n++ {
		if e := s.Put(1, n, rec.Record{Seq: 1, Key: "k"}); e == api.ErrFull {
			break
		} else if e != api.OK {
			t.Fatalf("P401: Put at %d = %v", n, e)
		}
	}
	s.Disk().Sync()
	again := opened(t, s.Disk())
	for pos := range n {
		if !s.Lasts(pos) || !again.Lasts(pos) {
			t.Fatalf("P402: %d of %d is not there", pos, n)
		}
	}
	if s.Lasts(n) || again.Disk().Len() != n || n < 1<<15 {
		t.Errorf("P401: %d lines of %d", again.Disk().Len(), n)
	}
}
