package dayspring_test

import (
	"math"
	"math/rand"
	"strings"
	"testing"

	"dayspring/api"
	"dayspring/dayspring"
)

func newDisk(t *testing.T, sectors int) *dayspring.Disk {
	t.Helper()
	d, e := dayspring.NewDisk(sectors)
	if d == nil || e != api.OK {
		t.Fatalf("NewDisk(%d) = %v, %d", sectors, d, e)
	}
	return d
}

func full(c byte) string { return strings.Repeat(string([]byte{c}), api.Sector) }

func wantRead(t *testing.T, d *dayspring.Disk, sector int, want string) {
	t.Helper()
	if got, e := d.Read(sector); e != api.OK || got != want {
		t.Errorf("Read(%d) = %q, %d, want %q", sector, got, e, want)
	}
}

func wantErrno(t *testing.T, what string, got, want api.Errno) {
	t.Helper()
	if got != want {
		t.Errorf("%s = %d, want %d", what, got, want)
	}
}

func failNow(d *dayspring.Disk, mask, tear int) {
	d.Fuse(0, mask, tear)
	d.Sync()
}

var oddNumbers = []int{math.MinInt, math.MinInt + 1, -65536, -65, -17, -16, -1, 0, 1, 15, 16, 17, 47, 48, 63, 64, 127, 128, 1023, 1024, 1039, 65535, 65536, 1 << 40, math.MaxInt - 1, math.MaxInt}

func TestP1NoNumberPanics(t *testing.T) {
	datas := []string{"", "a", full('a')[1:], full('a'), full('a') + "a", strings.Repeat("é", 64)}
	for _, n := range oddNumbers {
		dayspring.NewDisk(n)
		for _, m := range oddNumbers {
			for _, unsynced := range []int{0, 1, 3, 40} {
				d := newDisk(t, api.MinSectors)
				for i := range unsynced {
					d.Write(i%5, full('x'))
				}
				d.Fuse(n, m, n)
				d.Fuse(m, n, m)
				for _, data := range datas {
					d.Write(n, data)
				}
				d.Read(m)
				d.Sync()
				d.Fuse(0, n, m)
				d.Write(0, full('y'))
				if d.On() {
					t.Fatalf("a Fuse of 0, %d, %d is behind and there is power", n, m)
				}
				d.Restart()
			}
		}
	}
}

// What NewDisk refused is a disk without sectors and without power.
func TestP1CallsOnNoDisk(t *testing.T) {
	d, e := dayspring.NewDisk(0)
	if d != nil || e != api.ErrSectors {
		t.Fatalf("NewDisk(0) = %v, %d", d, e)
	}
	for _, d := range []*dayspring.Disk{d, {}} {
		d.Restart()
		d.Fuse(0, 0, 0)
		wantErrno(t, "Write", d.Write(0, full('a')), api.ErrSector)
		_, e = d.Read(0)
		wantErrno(t, "Read", e, api.ErrSector)
		wantErrno(t, "Sync", d.Sync(), api.ErrPower)
		if d.On() || d.Writes() != 0 {
			t.Errorf("on: %t, %d writes", d.On(), d.Writes())
		}
	}
}

func TestP1TheErrorNamedFirst(t *testing.T) {
	d := newDisk(t, api.MinSectors)
	for _, power := range []bool{true, false} {
		if !power {
			failNow(d, 0, 0)
		}
		wantErrno(t, "Write of no sector and no data", d.Write(api.MinSectors, "a"), api.ErrSector)
		wantErrno(t, "Write of no sector", d.Write(-1, full('a')), api.ErrSector)
		wantErrno(t, "Write of no data", d.Write(0, "a"), api.ErrData)
		s, e := d.Read(api.MinSectors)
		wantErrno(t, "Read of no sector", e, api.ErrSector)
		if s != "" {
			t.Errorf("beside an error: %q", s)
		}
	}
	wantErrno(t, "Write without power", d.Write(0, full('a')), api.ErrPower)
	wantErrno(t, "Sync without power", d.Sync(), api.ErrPower)
	if s, e := d.Read(0); s != "" || e != api.ErrPower {
		t.Errorf("Read without power = %q, %d", s, e)
	}
}

func TestP2DisksKnowNothingOfOneAnother(t *testing.T) {
	a, b := newDisk(t, 48), newDisk(t, 48)
	a.Write(3, full('a'))
	wantRead(t, b, 3, full(0))
	b.Write(3, full('b'))
	wantRead(t, a, 3, full('a'))
	a.Fuse(0, 0xffff, 1)
	wantErrno(t, "Sync beside another's fuse", b.Sync(), api.OK)
	wantErrno(t, "Sync at its fuse", a.Sync(), api.ErrPower)
	if a.On() || !b.On() || a.Writes() != 1 || b.Writes() != 1 {
		t.Errorf("on: %t, %t, writes: %d, %d", a.On(), b.On(), a.Writes(), b.Writes())
	}
	b.Write(4, full('c'))
	a.Restart()
	wantRead(t, b, 4, full('c'))
	wantRead(t, b, 3, full('b'))
	wantRead(t, a, 3, full(0))
}

func TestP2AskingChangesNothing(t *testing.T) {
	d := newDisk(t, 48)
	ask := func() {
		for _, n := range oddNumbers {
			d.Read(n)
		}
		d.On()
		d.Writes()
	}
	d.Write(0, full('a'))
	d.Fuse(2, 1<<1, 0)
	ask()
	wantErrno(t, "the first", d.Write(1, full('b')), api.OK)
	ask()
	wantErrno(t, "the second", d.Write(2, full('c')), api.OK)
	ask()
	wantErrno(t, "the third", d.Write(3, full('d')), api.ErrPower)
	ask()
	d.Restart()
	for i, c := range []byte{0, 'b', 0, 0} {
		wantRead(t, d, i, full(c))
	}
}

func TestP2CheckHangsOnItsArgument(t *testing.T) {
	for _, script := range []string{"", "\x00", "\x01", "\xff", strings.Repeat("\x00", api.MaxScript+1)} {
		first := dayspring.Check(script)
		d := newDisk(t, 48)
		d.Write(0, full('a'))
		failNow(d, 0, 0)
		dayspring.Check("\x02")
		wantErrno(t, "Check again", dayspring.Check(script), first)
	}
}

func TestP3NewDisk(t *testing.T) {
	for _, n := range append(oddNumbers, 129) {
		d, e := dayspring.NewDisk(n)
		if n < 48 || n > 128 {
			if d != nil || e != api.ErrSectors {
				t.Errorf("NewDisk(%d) = %v, %d", n, d, e)
			}
			continue
		}
		if d == nil || e != api.OK || !d.On() || d.Writes() != 0 {
			t.Fatalf("NewDisk(%d) = %v, %d", n, d, e)
		}
		for i := range n {
			wantRead(t, d, i, full(0))
			wantErrno(t, "Write", d.Write(i, full('a')), api.OK)
		}
		_, e = d.Read(n)
		wantErrno(t, "Read behind the last", e, api.ErrSector)
		wantErrno(t, "Write behind the last", d.Write(n, full('a')), api.ErrSector)
	}
}

func TestP3SectorsThatThereAreNot(t *testing.T) {
	d := newDisk(t, 48)
	for _, n := range oddNumbers {
		want := api.OK
		if n < 0 || n >= 48 {
			want = api.ErrSector
		}
		_, e := d.Read(n)
		wantErrno(t, "Read", e, want)
		wantErrno(t, "Write", d.Write(n, full('a')), want)
	}
}

func TestP3DataOfOtherLengths(t *testing.T) {
	d := newDisk(t, 48)
	d.Write(7, full('a'))
	for n := range 200 {
		want := api.ErrData
		if n == 64 {
			want = api.OK
		}
		wantErrno(t, "Write", d.Write(7, strings.Repeat("b", n)), want)
		if n < 64 {
			wantRead(t, d, 7, full('a'))
		}
	}
	if d.Writes() != 2 {
		t.Errorf("%d writes, want 2", d.Writes())
	}
	// Bytes are counted, not letters, and come back as they are, whether they make letters or not.
	wantErrno(t, "Write of 64 letters of 2 bytes", d.Write(7, strings.Repeat("é", 64)), api.ErrData)
	for _, s := range []string{strings.Repeat("é", 32), full(0xff), full(0x80)[1:] + "\n"} {
		wantErrno(t, "Write", d.Write(7, s), api.OK)
		wantRead(t, d, 7, s)
	}
}

func TestP3WrittenReadSynced(t *testing.T) {
	d := newDisk(t, 48)
	d.Write(0, full('a'))
	d.Write(0, full('b'))
	wantRead(t, d, 0, full('b'))
	wantRead(t, d, 1, full(0))
	wantErrno(t, "Sync", d.Sync(), api.OK)
	wantErrno(t, "Sync of nothing", d.Sync(), api.OK)
	d.Write(0, full('c'))
	d.Write(1, full('d'))
	failNow(d, 0, 0)
	d.Restart()
	wantRead(t, d, 0, full('b'))
	wantRead(t, d, 1, full(0))
	if d.Writes() != 4 {
		t.Errorf("%d writes, want 4: those that were lost too", d.Writes())
	}
}

func TestP3RefusedWritesAreNotCounted(t *testing.T) {
	d := newDisk(t, 48)
	d.Write(-1, full('a'))
	d.Write(0, "a")
	d.Fuse(1, 0, 0)
	d.Write(0, full('a'))
	d.Write(0, full('b'))
	d.Write(0, full('c'))
	if d.Writes() != 1 {
		t.Errorf("%d writes, want 1", d.Writes())
	}
}

// A Sync begins the numbers of the unsynced writes anew.
func TestP4NumbersBeginAtTheSync(t *testing.T) {
	d := newDisk(t, 48)
	d.Write(0, full('a'))
	d.Write(1, full('b'))
	d.Write(2, full('c'))
	d.Sync()
	d.Write(3, full('d'))
	d.Write(4, full('e'))
	d.Write(5, full('f'))
	failNow(d, 1<<0, 2)
	d.Restart()
	for i, c := range []byte{'a', 'b', 'c', 'd', 0, 0} {
		wantRead(t, d, i, full(c))
	}
	// So does a power failure.
	d.Write(6, full('g'))
	d.Write(7, full('h'))
	failNow(d, 1<<1, 0)
	d.Restart()
	wantRead(t, d, 6, full(0))
	wantRead(t, d, 7, full('h'))
}

func TestP4FuseCountsDeeds(t *testing.T) {
	for _, deeds := range []int{math.MinInt, -1, 0, 1, 2, 3, 10} {
		d := newDisk(t, 48)
		d.Fuse(deeds, 0xffff, 0)
		for i := range max(deeds, 0) {
			wantErrno(t, "a Write of no sector", d.Write(48, full('x')), api.ErrSector)
			wantErrno(t, "a Write of no data", d.Write(0, "x"), api.ErrData)
			if i%2 == 0 {
				wantErrno(t, "a Write ahead", d.Write(i, full('a')), api.OK)
			} else {
				wantErrno(t, "a Sync ahead", d.Sync(), api.OK)
			}
		}
		wantErrno(t, "a Write of no sector", d.Write(-1, full('x')), api.ErrSector)
		wantErrno(t, "a Write of no data", d.Write(0, ""), api.ErrData)
		if !d.On() {
			t.Errorf("Fuse(%d): no power after so many", deeds)
		}
		wantErrno(t, "the one behind", d.Write(20, full('z')), api.ErrPower)
		if d.On() {
			t.Errorf("Fuse(%d): power after one more", deeds)
		}
		d.Restart()
		wantRead(t, d, 20, full(0))
	}
	d := newDisk(t, 48)
	d.Fuse(math.MaxInt, 0, 0)
	for range 5000 {
		if d.Write(1, full('a')) != api.OK || d.Sync() != api.OK {
			t.Fatal("a fuse far ahead")
		}
	}
}

// The write that the power fails by is none of the unsynced ones.
func TestP4TheOneBehindIsNotDone(t *testing.T) {
	d := newDisk(t, 48)
	d.Write(0, full('a'))
	d.Write(1, full('b'))
	d.Fuse(0, 0, 64*16) // 1024 modulo 2 is 0, modulo 3 it would be 1
	wantErrno(t, "Write", d.Write(1, full('c')), api.ErrPower)
	d.Restart()
	wantRead(t, d, 0, full('a'))
	wantRead(t, d, 1, full(0))
	// Nor is a Sync done that it fails by.
	d.Write(2, full('d'))
	d.Write(3, full('e'))
	failNow(d, 0, 0)
	d.Restart()
	wantRead(t, d, 2, full(0))
	wantRead(t, d, 3, full(0))
}

func TestP4NoUnsyncedWrite(t *testing.T) {
	for _, mask := range oddNumbers {
		for _, tear := range oddNumbers {
			d := newDisk(t, 48)
			d.Write(0, full('a'))
			d.Sync()
			failNow(d, mask, tear)
			d.Restart()
			wantRead(t, d, 0, full('a'))
			wantRead(t, d, 1, full(0))
		}
	}
}

func TestP4NewFuse(t *testing.T) {
	d := newDisk(t, 48)
	d.Fuse(0, 0, 0)
	d.Fuse(3, 1<<1, 0)
	d.Write(0, full('a'))
	d.Write(1, full('b'))
	d.Fuse(1, 1<<2, 0)
	wantErrno(t, "the last ahead of the new fuse", d.Write(2, full('c')), api.OK)
	wantErrno(t, "Sync", d.Sync(), api.ErrPower)
	d.Restart()
	wantRead(t, d, 1, full(0))
	wantRead(t, d, 2, full('c'))
}

func TestP4FuseWithoutPower(t *testing.T) {
	d := newDisk(t, 48)
	d.Write(0, full('a'))
	d.Write(1, full('b'))
	failNow(d, 1<<1, 0)
	d.Fuse(0, 0, 0)
	if d.On() {
		t.Error("a Fuse gives power")
	}
	d.Restart()
	wantErrno(t, "Write", d.Write(2, full('c')), api.OK)
	wantErrno(t, "Sync", d.Sync(), api.OK)
	wantRead(t, d, 1, full('b'))
}

func TestP4Restart(t *testing.T) {
	d := newDisk(t, 48)
	d.Write(0, full('a'))
	d.Sync()
	d.Write(0, full('b'))
	d.Write(1, full('c'))
	d.Fuse(0, 0xffff, 64*16)
	d.Restart() // with power: as a mask and a tear of 0, whatever the fuse says
	if !d.On() {
		t.Error("no power after Restart")
	}
	wantRead(t, d, 0, full('a'))
	wantRead(t, d, 1, full(0))
	wantErrno(t, "Write behind a fuse that is gone", d.Write(2, full('d')), api.OK)
	failNow(d, 0, 7*16)
	if d.On() {
		t.Error("power after a failure")
	}
	for range 3 { // what has lasted is not unsynced any more
		d.Restart()
		wantRead(t, d, 2, "ddddddd"+full(0)[7:])
	}
	if !d.On() || d.Writes() != 4 {
		t.Errorf("on: %t, %d writes", d.On(), d.Writes())
	}
}

func TestP4MasksAndTears(t *testing.T) {
	for i, c := range []struct {
		mask, tear int
		want       [3]string
	}{
		{0xffff, math.MinInt, [3]string{"", full('b'), full('c')}},
		{0, -16 * 9, [3]string{"", "", ""}},
		{0, 15, [3]string{"", "", ""}}, // 15 modulo 3 is 0, of which no byte lasts
		{0, 18, [3]string{"a", "", ""}},
		{7, 1, [3]string{full('a'), "", full('c')}}, // the mask does not count for the torn one
		{5, 64*16 - 2, [3]string{full('a'), "", full('c')[:63]}},
		{4, 64*16 + 2, [3]string{full('a'), "", full('c')}},
		{0, 2000 * 16, [3]string{"", "", full('c')}}, // beyond 64 bytes it is whole
		{0, math.MaxInt64, [3]string{"", full('b'), ""}},
		{1<<1 | 1<<16 | 1<<18, 0, [3]string{"", full('b'), ""}},
		{-1 << 16, 0, [3]string{"", "", ""}},
		{math.MinInt | 1<<2, 0, [3]string{"", "", full('c')}},
	} {
		d := newDisk(t, 48)
		for k, b := range []byte("abc") {
			d.Write(k, full(b))
		}
		failNow(d, c.mask, c.tear)
		d.Restart()
		for k, w := range c.want {
			if got, _ := d.Read(k); got != w+full(0)[len(w):] {
				t.Errorf("row %d: Read(%d) = %q, want %q", i, k, got, w)
			}
		}
	}
}

// put is a write that was made, and shadow a plain telling of what P3 and P4 ask for.
type put struct {
	at   int
	data string
}

type shadow struct {
	safe     [48]string
	unsynced []put
	on       bool
	fuse     int // -1: none
	mask     int
	tear     int
	writes   int
}

func newShadow() *shadow {
	s := &shadow{on: true, fuse: -1}
	for i := range s.safe {
		s.safe[i] = full(0)
	}
	return s
}

func (s *shadow) read(at int) string {
	for i := len(s.unsynced) - 1; i >= 0; i-- {
		if s.unsynced[i].at == at {
			return s.unsynced[i].data
		}
	}
	return s.safe[at]
}

// outlasts asks for one byte of one sector: the last write that brings it there is looked for from behind.
func (s *shadow) outlasts(at, k, mask, tear int) byte {
	n := len(s.unsynced)
	for i := n - 1; i >= 0; i-- {
		w := s.unsynced[i]
		whole := i != tear%n && mask&(1<<(i%16)) != 0
		torn := i == tear%n && (k+1)*16 <= tear
		if w.at == at && (whole || torn) {
			return w.data[k]
		}
	}
	return s.safe[at][k]
}

func (s *shadow) fail(mask, tear int) {
	next := s.safe
	for at := range next {
		b := make([]byte, 64)
		for k := range b {
			b[k] = s.outlasts(at, k, mask, tear)
		}
		next[at] = string(b)
	}
	s.safe, s.unsynced, s.on, s.fuse = next, nil, false, -1
}

func (s *shadow) deed() api.Errno {
	if s.on && s.fuse == 0 {
		s.fail(s.mask, s.tear)
	}
	if !s.on {
		return api.ErrPower
	}
	if s.fuse > 0 {
		s.fuse--
	}
	return api.OK
}

func (s *shadow) write(at int, data string) api.Errno {
	e := s.deed()
	if e == api.OK {
		s.unsynced = append(s.unsynced, put{at, data})
		s.writes++
	}
	return e
}

func (s *shadow) sync() api.Errno {
	e := s.deed()
	if e == api.OK {
		for at := range s.safe {
			s.safe[at] = s.read(at)
		}
		s.unsynced = nil
	}
	return e
}

func (s *shadow) light(deeds, mask, tear int) {
	if s.on {
		s.fuse, s.mask, s.tear = max(deeds, 0), mask, max(tear, 0)
	}
}

func (s *shadow) restart() {
	if s.on {
		s.fail(0, 0)
	}
	s.on = true
}

func compare(t *testing.T, d *dayspring.Disk, s *shadow, at string) {
	t.Helper()
	if d.On() != s.on || d.Writes() != s.writes {
		t.Fatalf("%s: on: %t, %d writes, want %t, %d", at, d.On(), d.Writes(), s.on, s.writes)
	}
	for i := range s.safe {
		got, e := d.Read(i)
		if !s.on && (got != "" || e != api.ErrPower) {
			t.Fatalf("%s: Read(%d) without power = %q, %d", at, i, got, e)
		}
		if s.on && (got != s.read(i) || e != api.OK) {
			t.Fatalf("%s: Read(%d) = %q, %d, want %q", at, i, got, e, s.read(i))
		}
	}
}

func randomSector(r *rand.Rand) string {
	b := make([]byte, 64)
	r.Read(b)
	return string(b)
}

func TestP4EveryTear(t *testing.T) {
	r := rand.New(rand.NewSource(1))
	for _, n := range []int{1, 2, 3, 15, 16, 17, 33, 50} {
		for tear := -2; tear < 70*16; tear += 1 + r.Intn(9) {
			d, s := newDisk(t, 48), newShadow()
			for range n {
				at, data := r.Intn(6), randomSector(r)
				d.Write(at, data)
				s.write(at, data)
			}
			mask := r.Int() - r.Int()
			d.Fuse(0, mask, tear)
			s.light(0, mask, tear)
			d.Sync()
			s.sync()
			d.Restart()
			s.restart()
			compare(t, d, s, "a tear")
		}
	}
}

func TestP4ManyDeeds(t *testing.T) {
	for seed := range int64(60) {
		r := rand.New(rand.NewSource(seed))
		d, s := newDisk(t, 48), newShadow()
		for range 300 {
			switch k := r.Intn(20); {
			case k < 12:
				at, data := r.Intn(5), randomSector(r)
				wantErrno(t, "Write", d.Write(at, data), s.write(at, data))
			case k < 14:
				wantErrno(t, "Sync", d.Sync(), s.sync())
			case k < 17:
				deeds, mask, tear := r.Intn(12)-2, r.Intn(1<<18)-1<<17, r.Intn(70*16)-16
				d.Fuse(deeds, mask, tear)
				s.light(deeds, mask, tear)
			case k < 18 || !s.on:
				d.Restart()
				s.restart()
			}
			compare(t, d, s, "many deeds")
		}
	}
}
