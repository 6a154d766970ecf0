package tests

import (
	"slices"
	"testing"

	"loop.example/streamlayers/impl"
)

// lastBothStep is the greatest Step with which a file may begin to work.
const lastBothStep = impl.MaxCalls - 2*impl.MaxMore

// countsOfFiles are numbers of bytes that ReadBoth and PlainRead may be asked for.
var countsOfFiles = []int{0, 1, 2, 3, 7, 17, 59, 60}

// bothOf returns the file of a device with bytes read ahead and bytes to be written.
func bothOf(d impl.Device, in []int, out []int, size int) impl.Both {
	return impl.Both{Dev: d, In: in, Out: out, Size: size}
}

// bothReading returns the file of a device that has read the last k bytes ahead of its place.
func bothReading(d impl.Device, k int, size int) impl.Both {
	return bothOf(d, readAhead(d, k, size).Buf, nil, size)
}

// bothWriting returns the file of a device with a number of bytes to be written that stand nowhere else.
func bothWriting(d impl.Device, k int, size int) impl.Both {
	return bothOf(d, nil, writerAt(d, k, size).Buf, size)
}

// someBoths returns valid files that may begin to work: with places in, at and
// behind the end, with nothing, something and as much as possible read ahead or
// to be written, with bytes beyond the room, and with calls that have nothing.
func someBoths() []impl.Both {
	scripts := [][]int{nil, {60, 2, 1}, {2, 0, 3, -1, 1}, {0, 0, 5}, {-1, 1, 1, 0, 4, 60, -1}, {1, 1, 1, 1, 1, 1, 1, 1, 1, 1, 1, 0}}
	var out []impl.Both
	for _, n := range []int{0, 1, 5, 24, 60} {
		for _, at := range []int{0, 1, 4, 20, 58, 60} {
			for _, script := range scripts {
				for _, step := range []int{0, 1, lastBothStep} {
					out = append(out, bothsOf(atPlace(counted(n), at, step, script...))...)
				}
			}
		}
	}
	return out
}

// bothsOf returns valid files of a device.
func bothsOf(d impl.Device) []impl.Both {
	var out []impl.Both
	for _, size := range []int{1, 2, 5, 16} {
		out = append(out, bothOf(d, nil, nil, size))
		for _, k := range slices.Compact([]int{1, min(3, size), size}) {
			out = append(out, bothWriting(d, k, size))
			if d.At <= len(d.Data) && k <= d.At {
				out = append(out, bothReading(d, k, size))
			}
		}
	}
	return out
}

// wrongBoths returns files each of which is not valid for one reason.
func wrongBoths() []impl.Both {
	var out []impl.Both
	for _, r := range wrongReaders() {
		out = append(out, bothOf(r.Dev, r.Buf, nil, r.Size))
	}
	for _, w := range wrongWriters() {
		out = append(out, bothOf(w.Dev, nil, w.Buf, w.Size))
	}
	d := atPlace([]int{1, 2, 3}, 2, 0)
	return append(out,
		bothOf(d, []int{2}, []int{2}, 4),
		bothOf(d, []int{1, 2}, []int{7}, 2),
		bothOf(d, []int{2}, []int{7, 8, 9}, 16),
	)
}

// sameBoth reports whether two files are the same, where nil is empty.
func sameBoth(a, b impl.Both) bool {
	return sameDevice(a.Dev, b.Dev) && slices.Equal(a.In, b.In) && slices.Equal(a.Out, b.Out) && a.Size == b.Size
}

// isZeroBoth reports whether a file is the zero value.
func isZeroBoth(b impl.Both) bool {
	return sameBoth(b, impl.Both{})
}

// samePlain reports whether two plain files are the same, where nil is empty.
func samePlain(a, b impl.Plain) bool {
	return slices.Equal(a.Data, b.Data) && a.At == b.At
}

// somePlains returns valid plain files, with places in, at and behind the end.
func somePlains() []impl.Plain {
	var out []impl.Plain
	for _, n := range []int{0, 1, 2, 5, 30, 59, 60} {
		for _, at := range []int{0, 1, 2, 4, 5, 6, 30, 58, 59, 60} {
			out = append(out, impl.Plain{Data: counted(n), At: at})
		}
	}
	return out
}

// wrongPlains returns plain files each of which is not valid for one reason.
func wrongPlains() []impl.Plain {
	out := []impl.Plain{
		{Data: counted(61)}, {Data: zeros(61), At: 60}, {Data: []int{-1}}, {Data: []int{256}}, {Data: []int{1, 2, 256}},
		{At: -1}, {At: 61}, {Data: counted(60), At: -1}, {Data: counted(60), At: 61},
	}
	for _, n := range huge {
		out = append(out, impl.Plain{Data: []int{n}}, impl.Plain{At: n}, impl.Plain{Data: counted(5), At: n})
	}
	return out
}

// bothModel is a file that works byte by byte: it is the model of a reader when
// it reads, and that of a writer when it writes.
type bothModel struct {
	dev  impl.Device
	in   []int
	out  []int
	size int
}

// bothModelOf returns the model of a valid file.
func bothModelOf(b impl.Both) *bothModel {
	return &bothModel{dev: cloned(b.Dev), in: slices.Clone(b.In), out: slices.Clone(b.Out), size: b.Size}
}

// both returns the file that the model stands for now.
func (m *bothModel) both() impl.Both {
	return bothOf(m.dev, m.in, m.out, m.size)
}

// write lets the model of a writer work, and tells how that ended.
func (m *bothModel) write(work func(w *writerModel) int) int {
	w := writerModelOf(impl.Writer{Dev: m.dev, Buf: m.out, Size: m.size})
	st := work(w)
	m.dev, m.out = w.dev, w.waits
	return st
}

// flush writes what waits, and tells how it ended.
func (m *bothModel) flush() int {
	return m.write(func(w *writerModel) int { return w.flush() })
}

// read flushes and reads n bytes, and tells them and how it ended.
func (m *bothModel) read(n int) ([]int, int) {
	if st := m.flush(); st != impl.StOk {
		return nil, st
	}
	r := modelOf(impl.Reader{Dev: m.dev, Buf: m.in, Size: m.size})
	list, st := r.pull(func(list []int) bool { return len(list) == n })
	m.dev, m.in = r.reader().Dev, r.reader().Buf
	return list, st
}

// back leaves what was read ahead, byte by byte.
func (m *bothModel) back() {
	for range m.in {
		m.dev.At--
	}
	m.in = nil
}

// take takes bytes, and tells how many and how it ended.
func (m *bothModel) take(list []int) (int, int) {
	m.back()
	n := 0
	st := m.write(func(w *writerModel) (st int) {
		n, st = w.take(list, false)
		return st
	})
	return n, st
}

// seek flushes and goes to a place, and tells how it ended.
func (m *bothModel) seek(off, whence int) int {
	if st := m.flush(); st != impl.StOk {
		return st
	}
	now := m.dev.At - len(m.in)
	place := off + []int{impl.SkStart: 0, impl.SkNow: now, impl.SkEnd: len(m.dev.Data)}[whence]
	if place < 0 || place > impl.MaxData {
		return impl.StWrong
	}
	for now < place && len(m.in) > 0 {
		m.in = m.in[1:]
		now++
	}
	if now != place {
		m.dev.At, m.in = place, nil
	}
	return impl.StOk
}

// cut flushes and cuts, and tells how it ended.
func (m *bothModel) cut(n int) int {
	if st := m.flush(); st != impl.StOk {
		return st
	}
	m.back()
	m.dev.Data = joined(m.dev.Data, zeros(impl.MaxData))[:n]
	return impl.StOk
}

// plain returns the plain file as which the model is seen.
func (m *bothModel) plain() impl.Plain {
	at := m.dev.At - len(m.in) + len(m.out)
	return impl.Plain{Data: seenOf(impl.Writer{Dev: m.dev, Buf: m.out, Size: m.size}), At: at}
}

// checkBoth checks a file that a function returned, and how it ended, by the model.
func checkBoth(t *testing.T, what string, b, got impl.Both, st int, m *bothModel, wantSt int) {
	t.Helper()
	if want := m.both(); !sameBoth(got, want) || st != wantSt {
		t.Fatalf("%s(%v) = %v, %d, not %v, %d", what, b, got, st, want, wantSt)
	}
	if !impl.ValidBoth(got) {
		t.Fatalf("%s(%v) = %v, which is not valid", what, b, got)
	}
}

// checkFile checks a file that is written out, and how it ended.
func checkFile(t *testing.T, what string, got impl.Both, st int, want impl.Both, wantSt int) {
	t.Helper()
	if !sameBoth(got, want) || st != wantSt {
		t.Errorf("%s = %v, %d, not %v, %d", what, got, st, want, wantSt)
	}
}

func TestValidBoth(t *testing.T) {
	for _, b := range someBoths() {
		if !impl.ValidBoth(b) {
			t.Fatalf("ValidBoth(%v) = false", b)
		}
	}
	d := atPlace([]int{1, 2, 3}, 3, 0)
	for _, b := range []impl.Both{
		{Size: 1},
		{Size: 16},
		bothOf(d, []int{2, 3}, []int{}, 2),
		bothOf(d, []int{}, []int{0, 255}, 2),
		bothReading(atPlace(counted(60), 60, 1000), 16, 16),
		bothWriting(atPlace(counted(60), 60, 1000, 0, -1), 16, 16),
		bothWriting(atPlace(nil, 60, lastBothStep+1), 1, 1),
	} {
		if !impl.ValidBoth(b) {
			t.Errorf("ValidBoth(%v) = false", b)
		}
	}
	for _, b := range wrongBoths() {
		if impl.ValidBoth(b) {
			t.Errorf("ValidBoth(%v) = true", b)
		}
	}
}

// Promise 37: a valid file has nothing read ahead, or nothing to be written,
// and is valid after FlushBoth.
func TestPromise37FilesReadOrWrite(t *testing.T) {
	for _, b := range someBoths() {
		next, st := impl.FlushBoth(b)
		if !impl.ValidBoth(next) || len(next.In) > 0 && len(next.Out) > 0 {
			t.Fatalf("FlushBoth(%v) = %v, %d", b, next, st)
		}
		m := bothModelOf(b)
		wantSt := m.flush()
		checkBoth(t, "FlushBoth", b, next, st, m, wantSt)
		if len(b.In) > 0 && len(b.Out) > 0 {
			t.Fatalf("%v reads and writes", b)
		}
		if len(b.In) > 0 {
			b.Out = []int{7}
			if impl.ValidBoth(b) {
				t.Fatalf("ValidBoth(%v) = true", b)
			}
		}
	}
}

// A script's calls of 0 and -1 stop a flush where it is, and it goes on from there.
func TestFlushBothByScript(t *testing.T) {
	script := []int{1, 0, 2, -1, 60}
	b := bothOf(atPlace([]int{1, 2, 3}, 2, 0, script...), nil, []int{7, 8, 9, 6}, 4)
	for i, c := range []struct {
		st   int
		data []int
		at   int
		step int
		out  []int
	}{
		{impl.StNone, []int{1, 2, 7}, 3, 2, []int{8, 9, 6}},
		{impl.StFault, []int{1, 2, 7, 8, 9}, 5, 4, []int{6}},
		{impl.StOk, []int{1, 2, 7, 8, 9, 6}, 6, 5, nil},
		{impl.StOk, []int{1, 2, 7, 8, 9, 6}, 6, 5, nil},
	} {
		next, st := impl.FlushBoth(b)
		if want := bothOf(atPlace(c.data, c.at, c.step, script...), nil, c.out, 4); st != c.st || !sameBoth(next, want) {
			t.Errorf("flush %d = %v, %d", i, next, st)
		}
		b = next
	}
	// Nothing to be written is no call, and what was read ahead stays.
	b = bothReading(atPlace(counted(9), 5, 0, -1), 3, 4)
	next, st := impl.FlushBoth(b)
	checkFile(t, "FlushBoth of a file that reads", next, st, b, impl.StOk)
}

// A place behind the end leaves a gap that is filled, and a full device writes nothing.
func TestFlushBothGapsAndRoom(t *testing.T) {
	next, st := impl.FlushBoth(bothOf(atPlace([]int{1, 2}, 5, 0), nil, []int{7}, 1))
	checkFile(t, "FlushBoth behind the end", next, st, bothOf(atPlace([]int{1, 2, 0, 0, 0, 7}, 6, 1), nil, nil, 1), impl.StOk)
	next, st = impl.FlushBoth(bothOf(atPlace(counted(60), 59, 0), nil, []int{7, 8, 9}, 3))
	checkFile(t, "FlushBoth beyond the room", next, st, bothOf(atPlace(joined(counted(59), []int{7}), 60, 2), nil, []int{8, 9}, 3), impl.StFull)
	next, st = impl.FlushBoth(bothOf(atPlace(counted(3), 60, 0), nil, []int{7}, 3))
	checkFile(t, "FlushBoth without room", next, st, bothOf(atPlace(counted(3), 60, 1), nil, []int{7}, 3), impl.StFull)
}

// Promise 38: PlainOf NewBoth has Data and At of the device.
func TestPromise38NewFilesAreTheirDevices(t *testing.T) {
	for _, d := range someDevices() {
		for _, size := range []int{1, 2, 15, 16} {
			b, ok := impl.NewBoth(d, size)
			if !ok || !sameBoth(b, bothOf(d, nil, nil, size)) {
				t.Fatalf("NewBoth(%v, %d) = %v, %v", d, size, b, ok)
			}
			if p := impl.PlainOf(b); !samePlain(p, impl.Plain{Data: d.Data, At: d.At}) {
				t.Fatalf("PlainOf NewBoth(%v, %d) = %v", d, size, p)
			}
		}
	}
}

func TestNewBothWrong(t *testing.T) {
	check := func(d impl.Device, size int) {
		t.Helper()
		if b, ok := impl.NewBoth(d, size); ok || !isZeroBoth(b) {
			t.Errorf("NewBoth(%v, %d) = %v, %v", d, size, b, ok)
		}
	}
	for _, size := range append([]int{0, -1, 17}, huge...) {
		check(atPlace(counted(5), 1, 0), size)
	}
	for _, d := range wrongDevices() {
		check(d, 1)
	}
}

// Promise 39: PlainOf FlushBoth is PlainOf the file, and with StOk nothing is
// to be written.
func TestPromise39FlushingChangesNothingThatIsSeen(t *testing.T) {
	for _, b := range someBoths() {
		next, st := impl.FlushBoth(b)
		if p := impl.PlainOf(b); !samePlain(impl.PlainOf(next), p) {
			t.Fatalf("FlushBoth(%v) = %v, %d, which is seen as %v, not %v", b, next, st, impl.PlainOf(next), p)
		}
		if (st == impl.StOk) != (len(next.Out) == 0) {
			t.Fatalf("FlushBoth(%v) = %v, %d", b, next, st)
		}
	}
}

// Promise 40: PlainOf ReadBoth has the Data of before, and At is greater by as
// many bytes as were read.
func TestPromise40ReadingChangesOnlyThePlace(t *testing.T) {
	for _, b := range someBoths() {
		p := impl.PlainOf(b)
		for _, n := range countsOfFiles {
			next, list, st := impl.ReadBoth(b, n)
			if !samePlain(impl.PlainOf(next), impl.Plain{Data: p.Data, At: p.At + len(list)}) {
				t.Fatalf("ReadBoth(%v, %d) = %v, %v, %d, which is seen as %v", b, n, next, list, st, impl.PlainOf(next))
			}
			m := bothModelOf(b)
			want, wantSt := m.read(n)
			checkBoth(t, "ReadBoth", b, next, st, m, wantSt)
			if !slices.Equal(list, want) {
				t.Fatalf("ReadBoth(%v, %d) gave %v, not %v", b, n, list, want)
			}
		}
	}
}

// Promise 41: for a smooth device that is not full the bytes of ReadBoth are
// those of PlainRead of PlainOf the file.
func TestPromise41SmoothFilesReadAsPlainOnes(t *testing.T) {
	seen := 0
	for _, b := range someBoths() {
		if !impl.IsSmooth(b.Dev) || impl.TellBoth(b) > impl.MaxData {
			continue
		}
		for _, n := range countsOfFiles {
			next, list, st := impl.ReadBoth(b, n)
			p, want := impl.PlainRead(impl.PlainOf(b), n)
			if !slices.Equal(list, want) || !samePlain(impl.PlainOf(next), p) {
				t.Fatalf("ReadBoth(%v, %d) = %v, %v, %d, not %v", b, n, next, list, st, want)
			}
			if wantSt := map[bool]int{true: impl.StOk, false: impl.StEnd}[len(want) == n]; st != wantSt {
				t.Fatalf("ReadBoth(%v, %d) = %v, %v, %d", b, n, next, list, st)
			}
			seen += len(list)
		}
	}
	if seen == 0 {
		t.Error("no byte was read")
	}
}

// bothRead is one of several reads, one after the other: how many bytes are
// asked for, what is given and how that ends, and the bytes of the device, its
// place, its number of calls, what is read ahead and what is not written yet.
type bothRead struct {
	n        int
	list     []int
	st       int
	data     []int
	at, step int
	in, out  []int
}

// checkBothReads checks reads, one after the other.
func checkBothReads(t *testing.T, b impl.Both, steps []bothRead) {
	t.Helper()
	for i, s := range steps {
		next, list, st := impl.ReadBoth(b, s.n)
		want := bothOf(atPlace(s.data, s.at, s.step, b.Dev.Script...), s.in, s.out, b.Size)
		if !slices.Equal(list, s.list) || st != s.st || !sameBoth(next, want) {
			t.Errorf("read %d, of %d, gave %v, %v, %d", i, s.n, next, list, st)
		}
		b = next
	}
}

// Reading with something to write flushes first, and reads nothing if that ends in another way than well.
func TestReadBothFlushesFirst(t *testing.T) {
	b := bothOf(atPlace([]int{1, 2, 3, 4, 5, 6}, 1, 0, 1, 0, -1, 60, 2, 0, 60, -1), nil, []int{7, 8}, 3)
	checkBothReads(t, b, []bothRead{
		{2, nil, impl.StNone, []int{1, 7, 3, 4, 5, 6}, 2, 2, nil, []int{8}},
		{2, nil, impl.StFault, []int{1, 7, 3, 4, 5, 6}, 2, 3, nil, []int{8}},
		{1, []int{4}, impl.StOk, []int{1, 7, 8, 4, 5, 6}, 5, 5, []int{5}, nil},
		{2, []int{5}, impl.StNone, []int{1, 7, 8, 4, 5, 6}, 5, 6, nil, nil},
		{2, []int{6}, impl.StFault, []int{1, 7, 8, 4, 5, 6}, 6, 8, nil, nil},
		{2, nil, impl.StEnd, []int{1, 7, 8, 4, 5, 6}, 6, 9, nil, nil},
	})
	// A read of no bytes flushes, too, and fails with the flush.
	b = bothOf(atPlace([]int{1, 2, 3}, 1, 0, 1, 0), nil, []int{7, 8}, 3)
	checkBothReads(t, b, []bothRead{
		{0, nil, impl.StNone, []int{1, 7, 3}, 2, 2, nil, []int{8}},
		{0, nil, impl.StOk, []int{1, 7, 8}, 3, 3, nil, nil},
		{0, nil, impl.StOk, []int{1, 7, 8}, 3, 3, nil, nil},
	})
}

func TestReadBothGapsAndRoom(t *testing.T) {
	b := bothOf(atPlace([]int{1}, 3, 0), nil, []int{7}, 3)
	checkBothReads(t, b, []bothRead{{1, nil, impl.StEnd, []int{1, 0, 0, 7}, 4, 2, nil, nil}})
	b = bothOf(atPlace(counted(60), 59, 0), nil, []int{7, 8}, 3)
	full := joined(counted(59), []int{7})
	checkBothReads(t, b, []bothRead{
		{1, nil, impl.StFull, full, 60, 2, nil, []int{8}},
		{0, nil, impl.StFull, full, 60, 3, nil, []int{8}},
	})
	b = bothOf(atPlace([]int{1}, 60, 0), nil, nil, 3)
	checkBothReads(t, b, []bothRead{{60, nil, impl.StEnd, []int{1}, 60, 1, nil, nil}})
}

// What was read ahead is given without a call.
func TestReadBothOfWhatWasReadAhead(t *testing.T) {
	b := bothReading(atPlace([]int{1, 2, 3, 4, 5}, 3, 0, -1, 1, 0), 2, 4)
	data := []int{1, 2, 3, 4, 5}
	checkBothReads(t, b, []bothRead{
		{1, []int{2}, impl.StOk, data, 3, 0, []int{3}, nil},
		{2, []int{3}, impl.StFault, data, 3, 1, nil, nil},
		{2, []int{4}, impl.StNone, data, 4, 3, nil, nil},
	})
}

// The file after WriteBoth is the one that the model has.
func TestWriteBothAsByteByByte(t *testing.T) {
	for _, b := range someBoths() {
		for _, list := range listsTaken() {
			next, n, st := impl.WriteBoth(b, list)
			m := bothModelOf(b)
			wantN, wantSt := m.take(list)
			checkBoth(t, "WriteBoth", b, next, st, m, wantSt)
			if n != wantN || (st == impl.StOk) != (n == len(list)) || len(next.In) != 0 {
				t.Fatalf("WriteBoth(%v, %v) = %v, %d, %d, not %d", b, list, next, n, st, wantN)
			}
		}
	}
}

// Promise 42: PlainOf WriteBoth is PlainWrite of the bytes that were taken, if
// there is room for them.
func TestPromise42FilesAreWrittenAsPlainOnes(t *testing.T) {
	for _, b := range someBoths() {
		place := impl.TellBoth(b)
		if place > impl.MaxData {
			continue
		}
		for _, list := range listsTaken() {
			next, n, st := impl.WriteBoth(b, list)
			p, fit := impl.PlainWrite(impl.PlainOf(b), list[:n])
			if fit != min(n, impl.MaxData-place) {
				t.Fatalf("PlainWrite(%v, %v) = %v, %d", impl.PlainOf(b), list[:n], p, fit)
			}
			// Bytes beyond the room are not seen, but are ahead of the place.
			p.At += n - fit
			if !samePlain(impl.PlainOf(next), p) {
				t.Fatalf("WriteBoth(%v, %v) = %v, %d, %d, which is seen as %v, not %v", b, list, next, n, st, impl.PlainOf(next), p)
			}
		}
	}
}

// bothWrite is one of several writes, one after the other: what is given, how
// many bytes are taken and how that ends, and the bytes of the device, its
// place, its number of calls, and what is not written yet.
type bothWrite struct {
	list     []int
	n, st    int
	data     []int
	at, step int
	out      []int
}

// checkBothWrites checks writes, one after the other.
func checkBothWrites(t *testing.T, b impl.Both, steps []bothWrite) {
	t.Helper()
	for i, s := range steps {
		next, n, st := impl.WriteBoth(b, s.list)
		want := bothOf(atPlace(s.data, s.at, s.step, b.Dev.Script...), nil, s.out, b.Size)
		if n != s.n || st != s.st || !sameBoth(next, want) {
			t.Errorf("write %d, of %v, = %v, %d, %d", i, s.list, next, n, st)
		}
		b = next
	}
}

// Writing after bytes were read ahead goes back to where the file is, also with
// no bytes to be taken, and even if the flush fails then.
func TestWriteBothAfterReadingAhead(t *testing.T) {
	data := []int{1, 2, 3, 4, 5}
	b := bothReading(atPlace(data, 4, 0, 1, 0, -1, 1), 3, 3)
	checkBothWrites(t, b, []bothWrite{{nil, 0, impl.StOk, data, 1, 0, nil}})
	checkBothWrites(t, b, []bothWrite{
		{[]int{7, 8, 9}, 3, impl.StOk, data, 1, 0, []int{7, 8, 9}},
		{nil, 0, impl.StOk, data, 1, 0, []int{7, 8, 9}},
		{[]int{6, 11}, 1, impl.StFault, []int{1, 7, 3, 4, 5}, 2, 3, []int{8, 9, 6}},
		{[]int{11, 12}, 2, impl.StOk, []int{1, 7, 8, 9, 6}, 5, 5, []int{11, 12}},
	})
	b = bothReading(atPlace(data, 4, 0, -1), 1, 1)
	checkBothWrites(t, b, []bothWrite{{[]int{7, 8}, 1, impl.StFault, data, 3, 1, []int{7}}})
	b = bothReading(atPlace(counted(60), 60, 0), 16, 16)
	checkBothWrites(t, b, []bothWrite{{[]int{7}, 1, impl.StOk, counted(60), 44, 0, []int{7}}})
}

func TestWriteBothGapsAndRoom(t *testing.T) {
	b := bothOf(atPlace([]int{1, 2}, 4, 0), nil, nil, 1)
	checkBothWrites(t, b, []bothWrite{
		{[]int{7}, 1, impl.StOk, []int{1, 2}, 4, 0, []int{7}},
		{[]int{8}, 1, impl.StOk, []int{1, 2, 0, 0, 7}, 5, 1, []int{8}},
	})
	b = bothOf(atPlace(counted(60), 58, 0), nil, nil, 2)
	full := joined(counted(58), []int{7, 8})
	checkBothWrites(t, b, []bothWrite{
		{[]int{7, 8, 9, 6, 5, 4}, 4, impl.StFull, full, 60, 2, []int{9, 6}},
		{[]int{5}, 0, impl.StFull, full, 60, 3, []int{9, 6}},
	})
}

// Promise 43: TellBoth is At of PlainOf.
func TestPromise43FilesAreAtOnePlace(t *testing.T) {
	for _, b := range someBoths() {
		place := impl.TellBoth(b)
		if place != b.Dev.At-len(b.In)+len(b.Out) || place != impl.PlainOf(b).At {
			t.Fatalf("TellBoth(%v) = %d, and PlainOf it is %v", b, place, impl.PlainOf(b))
		}
		if p := bothModelOf(b).plain(); !samePlain(impl.PlainOf(b), p) {
			t.Fatalf("PlainOf(%v) = %v, not %v", b, impl.PlainOf(b), p)
		}
	}
}

func TestTellBothAndPlainOf(t *testing.T) {
	data := []int{1, 2, 3}
	for _, c := range []struct {
		b    impl.Both
		want impl.Plain
	}{
		{bothOf(atPlace(data, 3, 0), nil, nil, 2), impl.Plain{Data: data, At: 3}},
		{bothOf(atPlace(data, 3, 0), []int{2, 3}, nil, 2), impl.Plain{Data: data, At: 1}},
		{bothOf(atPlace(data, 3, 0), []int{1, 2, 3}, nil, 3), impl.Plain{Data: data, At: 0}},
		{bothOf(atPlace(data, 2, 0, 0), nil, []int{7, 8}, 2), impl.Plain{Data: []int{1, 2, 7, 8}, At: 4}},
		{bothOf(atPlace(data, 5, 0, -1), nil, []int{7}, 2), impl.Plain{Data: []int{1, 2, 3, 0, 0, 7}, At: 6}},
		{bothOf(atPlace(data, 5, 0), nil, nil, 2), impl.Plain{Data: data, At: 5}},
		{bothOf(atPlace(data, 60, 0), nil, []int{7, 8}, 2), impl.Plain{Data: data, At: 62}},
		{bothOf(atPlace(counted(60), 59, 0), nil, []int{7, 8}, 2), impl.Plain{Data: joined(counted(59), []int{7}), At: 61}},
	} {
		// No call is made, so that Step does not matter.
		for _, step := range []int{0, lastBothStep + 1, 1000} {
			c.b.Dev.Step = step
			if p, place := impl.PlainOf(c.b), impl.TellBoth(c.b); !samePlain(p, c.want) || place != c.want.At {
				t.Errorf("PlainOf(%v) = %v, TellBoth = %d", c.b, p, place)
			}
		}
	}
	for _, b := range wrongBoths() {
		if p, place := impl.PlainOf(b), impl.TellBoth(b); !samePlain(p, impl.Plain{}) || place != -1 {
			t.Errorf("PlainOf(%v) = %v, TellBoth = %d", b, p, place)
		}
	}
}

// Promise 44: with StOk PlainOf SeekBoth is PlainSeek of PlainOf the file.
func TestPromise44FilesGoAsPlainOnes(t *testing.T) {
	for _, b := range someBoths() {
		p := impl.PlainOf(b)
		for _, whence := range whences {
			for _, off := range []int{-60, -58, -5, -1, 0, 1, 2, 3, 30, 55, 60} {
				next, st := impl.SeekBoth(b, off, whence)
				m := bothModelOf(b)
				wantSt := m.seek(off, whence)
				checkBoth(t, "SeekBoth", b, next, st, m, wantSt)
				want, ok := impl.PlainSeek(p, off, whence)
				if st == impl.StOk && (!ok || !samePlain(impl.PlainOf(next), want)) || st == impl.StWrong && ok {
					t.Fatalf("SeekBoth(%v, %d, %d) = %v, %d, and the plain file is %v, %v", b, off, whence, next, st, want, ok)
				}
				if st != impl.StOk && !samePlain(impl.PlainOf(next), p) {
					t.Fatalf("SeekBoth(%v, %d, %d) = %v, %d, but did not stay", b, off, whence, next, st)
				}
			}
		}
	}
}

// A seek into what was read ahead keeps what is from its place on, and leaves
// the device where it is; any other one leaves nothing of it.
func TestSeekBothIntoWhatWasReadAhead(t *testing.T) {
	data := counted(10)
	b := bothReading(atPlace(data, 7, 3, 0, -1), 3, 4) // at 4
	for _, c := range []struct{ off, whence, at, in int }{
		{4, impl.SkStart, 7, 3}, {5, impl.SkStart, 7, 2}, {6, impl.SkStart, 7, 1}, {7, impl.SkStart, 7, 0},
		{3, impl.SkStart, 3, 0}, {8, impl.SkStart, 8, 0}, {0, impl.SkStart, 0, 0}, {60, impl.SkStart, 60, 0},
		{0, impl.SkNow, 7, 3}, {1, impl.SkNow, 7, 2}, {3, impl.SkNow, 7, 0}, {4, impl.SkNow, 8, 0}, {-1, impl.SkNow, 3, 0}, {-4, impl.SkNow, 0, 0}, {56, impl.SkNow, 60, 0},
		{-6, impl.SkEnd, 7, 3}, {-3, impl.SkEnd, 7, 0}, {-7, impl.SkEnd, 3, 0}, {0, impl.SkEnd, 10, 0}, {50, impl.SkEnd, 60, 0},
	} {
		next, st := impl.SeekBoth(b, c.off, c.whence)
		checkFile(t, "SeekBoth", next, st, bothOf(atPlace(data, c.at, 3, 0, -1), data[7-c.in:7], nil, 4), impl.StOk)
	}
	// There is no such place: what was read ahead stays.
	for _, c := range []struct{ off, whence int }{
		{-1, impl.SkStart}, {-60, impl.SkStart}, {-5, impl.SkNow}, {57, impl.SkNow}, {-11, impl.SkEnd}, {51, impl.SkEnd},
	} {
		next, st := impl.SeekBoth(b, c.off, c.whence)
		checkFile(t, "SeekBoth to no place", next, st, b, impl.StWrong)
	}
}

// A seek flushes first; where there is no such place the file stays flushed.
func TestSeekBothFlushesFirst(t *testing.T) {
	b := bothWriting(atPlace(counted(8), 7, 0, 2), 3, 4) // at 10, and a flush makes 2 calls
	data := joined(counted(7), []int{201, 202, 203})
	for _, c := range []struct{ off, whence, at int }{
		{0, impl.SkStart, 0}, {9, impl.SkStart, 9}, {60, impl.SkStart, 60}, {-1, impl.SkStart, -1},
		{0, impl.SkNow, 10}, {-3, impl.SkNow, 7}, {50, impl.SkNow, 60}, {-11, impl.SkNow, -1}, {51, impl.SkNow, -1},
		{0, impl.SkEnd, 10}, {-10, impl.SkEnd, 0}, {50, impl.SkEnd, 60}, {-11, impl.SkEnd, -1}, {51, impl.SkEnd, -1},
	} {
		want, wantSt := bothOf(atPlace(data, c.at, 2, 2), nil, nil, 4), impl.StOk
		if c.at < 0 {
			want.Dev.At, wantSt = 10, impl.StWrong
		}
		next, st := impl.SeekBoth(b, c.off, c.whence)
		checkFile(t, "SeekBoth", next, st, want, wantSt)
	}
	// A flush that fails is how a seek ends, also where there is no such place.
	for _, off := range []int{0, 5, -1} {
		b := bothWriting(atPlace(counted(5), 1, 0, 1, 0, -1), 3, 4)
		want := bothOf(atPlace(joined(counted(1), []int{201}, counted(5)[2:]), 2, 2, 1, 0, -1), nil, []int{202, 203}, 4)
		next, st := impl.SeekBoth(b, off, impl.SkStart)
		checkFile(t, "SeekBoth", next, st, want, impl.StNone)
		want.Dev.Step = 3
		next, st = impl.SeekBoth(next, off, impl.SkStart)
		checkFile(t, "SeekBoth", next, st, want, impl.StFault)
		next, st = impl.SeekBoth(bothWriting(atPlace(counted(3), 60, 0), 1, 4), off, impl.SkStart)
		checkFile(t, "SeekBoth", next, st, bothWriting(atPlace(counted(3), 60, 1), 1, 4), impl.StFull)
	}
}

// Promise 45: with StOk Data of PlainOf CutBoth has n bytes, and At is as before.
func TestPromise45CutFilesAreAsLongAsTold(t *testing.T) {
	for _, b := range someBoths() {
		p := impl.PlainOf(b)
		for _, n := range []int{0, 1, 5, 19, 23, 24, 25, 60} {
			next, st := impl.CutBoth(b, n)
			m := bothModelOf(b)
			wantSt := m.cut(n)
			checkBoth(t, "CutBoth", b, next, st, m, wantSt)
			want := p
			if st == impl.StOk {
				want.Data = joined(p.Data, zeros(impl.MaxData))[:n]
			}
			if !samePlain(impl.PlainOf(next), want) {
				t.Fatalf("CutBoth(%v, %d) = %v, %d, which is seen as %v, not %v", b, n, next, st, impl.PlainOf(next), want)
			}
		}
	}
}

func TestCutBothOfWhatWasReadAhead(t *testing.T) {
	b := bothReading(atPlace([]int{1, 2, 3, 4, 5}, 4, 3, 0, -1), 3, 4)
	for n := range 9 {
		next, st := impl.CutBoth(b, n)
		data := joined([]int{1, 2, 3, 4, 5}, zeros(9))[:n]
		checkFile(t, "CutBoth", next, st, bothOf(atPlace(data, 1, 3, 0, -1), nil, nil, 4), impl.StOk)
	}
}

func TestCutBothFlushesFirst(t *testing.T) {
	b := bothWriting(atPlace([]int{1, 2, 3}, 2, 0, 1, 0, -1, 60), 2, 2)
	next, st := impl.CutBoth(b, 1)
	want := bothOf(atPlace([]int{1, 2, 201}, 3, 2, 1, 0, -1, 60), nil, []int{202}, 2)
	checkFile(t, "CutBoth", next, st, want, impl.StNone)
	want.Dev.Step = 3
	next, st = impl.CutBoth(next, 1)
	checkFile(t, "CutBoth", next, st, want, impl.StFault)
	next, st = impl.CutBoth(next, 1)
	want = bothOf(atPlace([]int{1}, 4, 4, 1, 0, -1, 60), nil, nil, 2)
	checkFile(t, "CutBoth", next, st, want, impl.StOk)
	// What was cut does not come back.
	next, st = impl.CutBoth(next, 5)
	want.Dev.Data = []int{1, 0, 0, 0, 0}
	checkFile(t, "CutBoth", next, st, want, impl.StOk)
	next, st = impl.CutBoth(bothWriting(atPlace(counted(60), 60, 0), 1, 2), 0)
	checkFile(t, "CutBoth", next, st, bothWriting(atPlace(counted(60), 60, 1), 1, 2), impl.StFull)
}

// Promise 46: Data of PlainOf is that of Dev, if nothing is to be written.
func TestPromise46FilesAreSeenAsPlainOnes(t *testing.T) {
	for _, b := range someBoths() {
		if p := impl.PlainOf(b); len(b.Out) == 0 && !slices.Equal(p.Data, b.Dev.Data) {
			t.Fatalf("PlainOf(%v) = %v", b, p)
		}
		if next, st := impl.FlushBoth(b); st == impl.StOk && !slices.Equal(impl.PlainOf(b).Data, next.Dev.Data) {
			t.Fatalf("PlainOf(%v) = %v, but flushed it is %v", b, impl.PlainOf(b), next)
		}
	}
}

// Promise 47: PlainRead after PlainSeek back gives the same bytes.
func TestPromise47WhatWasReadIsReadAgain(t *testing.T) {
	for _, p := range somePlains() {
		for _, n := range countsOfFiles {
			next, list := impl.PlainRead(p, n)
			var want []int
			for i := p.At; i < len(p.Data) && len(want) < n; i++ {
				want = append(want, p.Data[i])
			}
			if !slices.Equal(list, want) || !samePlain(next, impl.Plain{Data: p.Data, At: p.At + len(want)}) {
				t.Fatalf("PlainRead(%v, %d) = %v, %v", p, n, next, list)
			}
			back, ok := impl.PlainSeek(next, -len(list), impl.SkNow)
			if again, second := impl.PlainRead(back, n); !ok || !samePlain(back, p) || !slices.Equal(second, list) || !samePlain(again, next) {
				t.Fatalf("back from %v is %v, %v, and gives %v, not %v", next, back, ok, second, list)
			}
		}
	}
}

// Promise 48: PlainRead after PlainSeek back gives the bytes of PlainWrite.
func TestPromise48WhatWasWrittenIsRead(t *testing.T) {
	for _, p := range somePlains() {
		for _, list := range listsTaken() {
			next, n := impl.PlainWrite(p, list)
			want := impl.Plain{Data: p.Data, At: p.At}
			if fit := min(len(list), impl.MaxData-p.At); fit > 0 {
				want = impl.Plain{Data: writtenOver(p.Data, p.At, list[:fit]), At: p.At + fit}
			}
			if n != want.At-p.At || !samePlain(next, want) {
				t.Fatalf("PlainWrite(%v, %v) = %v, %d, not %v", p, list, next, n, want)
			}
			back, ok := impl.PlainSeek(next, -n, impl.SkNow)
			if _, got := impl.PlainRead(back, n); !ok || back.At != p.At || !slices.Equal(got, list[:n]) {
				t.Fatalf("back from %v is %v, %v, and gives %v, not %v", next, back, ok, got, list[:n])
			}
		}
	}
}

func TestPlainWrite(t *testing.T) {
	data := []int{1, 2, 3}
	for _, c := range []struct {
		at   int
		list []int
		want []int
		n    int
	}{
		{0, nil, data, 0},
		{5, nil, data, 0},
		{60, nil, data, 0},
		{60, []int{7}, data, 0},
		{0, []int{7}, []int{7, 2, 3}, 1},
		{2, []int{7, 8}, []int{1, 2, 7, 8}, 2},
		{3, []int{7}, []int{1, 2, 3, 7}, 1},
		{5, []int{7}, []int{1, 2, 3, 0, 0, 7}, 1},
		{59, []int{7, 8}, joined(data, zeros(56), []int{7}), 1},
		{0, counted(60), counted(60), 60},
		{1, counted(60), joined([]int{1}, counted(59)), 59},
	} {
		p := impl.Plain{Data: data, At: c.at}
		next, n := impl.PlainWrite(p, c.list)
		if n != c.n || !samePlain(next, impl.Plain{Data: c.want, At: c.at + c.n}) {
			t.Errorf("PlainWrite(%v, %v) = %v, %d", p, c.list, next, n)
		}
	}
}

// Promise 49: PlainSeek to its At from the beginning on is the same.
func TestPromise49PlacesAreWhereTheyAreTold(t *testing.T) {
	for _, p := range somePlains() {
		if next, ok := impl.PlainSeek(p, p.At, impl.SkStart); !ok || !samePlain(next, p) {
			t.Fatalf("PlainSeek(%v) to its place = %v, %v", p, next, ok)
		}
		for _, whence := range whences {
			from := []int{impl.SkStart: 0, impl.SkNow: p.At, impl.SkEnd: len(p.Data)}[whence]
			for off := -impl.MaxData; off <= impl.MaxData; off++ {
				want, wantOk := impl.Plain{Data: p.Data, At: from + off}, true
				if want.At < 0 || want.At > impl.MaxData {
					want, wantOk = impl.Plain{}, false
				}
				if next, ok := impl.PlainSeek(p, off, whence); ok != wantOk || !samePlain(next, want) {
					t.Fatalf("PlainSeek(%v, %d, %d) = %v, %v", p, off, whence, next, ok)
				}
			}
		}
	}
}

// wrongPlain checks that each function says that its arguments are wrong.
func wrongPlain(t *testing.T, what string, p impl.Plain, list []int, n int, ok bool) {
	t.Helper()
	if !samePlain(p, impl.Plain{}) || len(list) != 0 || n != 0 || ok {
		t.Errorf("%s = %v, %v, %d, %v", what, p, list, n, ok)
	}
}

func TestPlainsWrong(t *testing.T) {
	for _, p := range wrongPlains() {
		for _, n := range countsOfFiles {
			next, list := impl.PlainRead(p, n)
			wrongPlain(t, "PlainRead", next, list, 0, false)
		}
		for _, list := range listsTaken() {
			next, n := impl.PlainWrite(p, list)
			wrongPlain(t, "PlainWrite", next, nil, n, false)
		}
		for _, whence := range whences {
			for _, off := range []int{-60, 0, 60} {
				next, ok := impl.PlainSeek(p, off, whence)
				wrongPlain(t, "PlainSeek", next, nil, 0, ok)
			}
		}
	}
}

func TestPlainsWrongNumbers(t *testing.T) {
	for _, p := range somePlains() {
		for _, n := range append([]int{-1, 61}, huge...) {
			next, list := impl.PlainRead(p, n)
			wrongPlain(t, "PlainRead", next, list, 0, false)
		}
		for _, list := range wrongLists() {
			next, n := impl.PlainWrite(p, list)
			wrongPlain(t, "PlainWrite", next, nil, n, false)
		}
		for _, off := range append([]int{-61, 61}, huge...) {
			for _, whence := range whences {
				next, ok := impl.PlainSeek(p, off, whence)
				wrongPlain(t, "PlainSeek", next, nil, 0, ok)
			}
		}
		for _, whence := range append([]int{-1, 3}, huge...) {
			next, ok := impl.PlainSeek(p, 0, whence)
			wrongPlain(t, "PlainSeek", next, nil, 0, ok)
		}
	}
}

// A file at Step MaxCalls-2*MaxMore makes all the calls that an operation
// needs: Step is asked where it begins alone.
func TestFilesAtTheirLastStep(t *testing.T) {
	b := bothWriting(atPlace(counted(60), 0, lastBothStep), 1, 1)
	want := bothOf(atPlace(joined([]int{201}, taken(59)), 60, lastBothStep+60), nil, taken(60)[59:], 1)
	next, n, st := impl.WriteBoth(b, taken(60))
	if n != 60 {
		t.Errorf("WriteBoth took %d", n)
	}
	checkFile(t, "WriteBoth", next, st, want, impl.StOk)
	flushed := bothOf(atPlace(joined([]int{201}, counted(60)[1:]), 1, lastBothStep+1), nil, nil, 1)
	next, st = impl.FlushBoth(b)
	checkFile(t, "FlushBoth", next, st, flushed, impl.StOk)
	next, st = impl.SeekBoth(b, 0, impl.SkNow)
	checkFile(t, "SeekBoth", next, st, flushed, impl.StOk)
	next, st = impl.CutBoth(b, 60)
	checkFile(t, "CutBoth", next, st, flushed, impl.StOk)
	want = bothOf(atPlace(flushed.Dev.Data, 60, lastBothStep+61), nil, nil, 1)
	next, list, st := impl.ReadBoth(b, 60)
	if !slices.Equal(list, counted(60)[1:]) {
		t.Errorf("ReadBoth gave %v", list)
	}
	checkFile(t, "ReadBoth", next, st, want, impl.StEnd)
}

// wrongFile checks that a function says that its arguments are wrong.
func wrongFile(t *testing.T, what string, next impl.Both, list []int, n int, st int) {
	t.Helper()
	if !isZeroBoth(next) || len(list) != 0 || n != 0 || st != impl.StWrong {
		t.Errorf("%s = %v, %v, %d, %d", what, next, list, n, st)
	}
}

// wrongBoth checks that each function that makes calls says that the file is wrong.
func wrongBoth(t *testing.T, b impl.Both) {
	t.Helper()
	next, st := impl.FlushBoth(b)
	wrongFile(t, "FlushBoth", next, nil, 0, st)
	for _, n := range countsOfFiles {
		next, list, st := impl.ReadBoth(b, n)
		wrongFile(t, "ReadBoth", next, list, 0, st)
		next, st = impl.CutBoth(b, n)
		wrongFile(t, "CutBoth", next, nil, 0, st)
	}
	for _, list := range listsTaken() {
		next, n, st := impl.WriteBoth(b, list)
		wrongFile(t, "WriteBoth", next, nil, n, st)
	}
	for _, whence := range whences {
		for _, off := range []int{-60, 0, 60} {
			next, st := impl.SeekBoth(b, off, whence)
			wrongFile(t, "SeekBoth", next, nil, 0, st)
		}
	}
}

func TestFilesWrong(t *testing.T) {
	for _, b := range wrongBoths() {
		wrongBoth(t, b)
	}
	// One step too many, also where no call would be needed.
	for _, step := range []int{lastBothStep + 1, lastStep, lastStep + 1, 999, 1000} {
		d := atPlace(counted(24), 8, step)
		for _, b := range []impl.Both{bothOf(d, nil, nil, 4), bothReading(d, 3, 4), bothWriting(d, 3, 4), bothWriting(d, 4, 4)} {
			wrongBoth(t, b)
		}
	}
}

// Arguments that are wrong are told ahead of a flush, however that would end.
func TestFilesWrongNumbers(t *testing.T) {
	for _, script := range [][]int{nil, {0}, {2, -1}} {
		d := atPlace(counted(24), 8, 0, script...)
		for _, b := range bothsOf(d) {
			for _, n := range append([]int{-1, 61}, huge...) {
				next, list, st := impl.ReadBoth(b, n)
				wrongFile(t, "ReadBoth", next, list, 0, st)
				next, st = impl.CutBoth(b, n)
				wrongFile(t, "CutBoth", next, nil, 0, st)
			}
			for _, list := range wrongLists() {
				next, n, st := impl.WriteBoth(b, list)
				wrongFile(t, "WriteBoth", next, nil, n, st)
			}
			for _, off := range append([]int{-61, 61}, huge...) {
				for _, whence := range whences {
					next, st := impl.SeekBoth(b, off, whence)
					wrongFile(t, "SeekBoth", next, nil, 0, st)
				}
			}
			for _, whence := range append([]int{-1, 3}, huge...) {
				next, st := impl.SeekBoth(b, 0, whence)
				wrongFile(t, "SeekBoth", next, nil, 0, st)
			}
		}
	}
}

// bothCalls are the functions that return files, with the bytes that they give.
func bothCalls() map[string]func(b impl.Both, list []int) (impl.Both, []int) {
	one := func(next impl.Both, st int) (impl.Both, []int) {
		return next, nil
	}
	two := func(next impl.Both, list []int, st int) (impl.Both, []int) {
		return next, list
	}
	three := func(next impl.Both, n int, st int) (impl.Both, []int) {
		return next, nil
	}
	return map[string]func(b impl.Both, list []int) (impl.Both, []int){
		"NewBoth": func(b impl.Both, list []int) (impl.Both, []int) {
			next, _ := impl.NewBoth(b.Dev, b.Size)
			return next, nil
		},
		"FlushBoth":            func(b impl.Both, list []int) (impl.Both, []int) { return one(impl.FlushBoth(b)) },
		"ReadBoth":             func(b impl.Both, list []int) (impl.Both, []int) { return two(impl.ReadBoth(b, 2)) },
		"ReadBoth of nothing":  func(b impl.Both, list []int) (impl.Both, []int) { return two(impl.ReadBoth(b, 0)) },
		"ReadBoth of all":      func(b impl.Both, list []int) (impl.Both, []int) { return two(impl.ReadBoth(b, 60)) },
		"WriteBoth":            func(b impl.Both, list []int) (impl.Both, []int) { return three(impl.WriteBoth(b, list)) },
		"WriteBoth of nothing": func(b impl.Both, list []int) (impl.Both, []int) { return three(impl.WriteBoth(b, nil)) },
		"SeekBoth":             func(b impl.Both, list []int) (impl.Both, []int) { return one(impl.SeekBoth(b, 0, impl.SkEnd)) },
		"SeekBoth to a byte":   func(b impl.Both, list []int) (impl.Both, []int) { return one(impl.SeekBoth(b, 1, impl.SkNow)) },
		"SeekBoth to no place": func(b impl.Both, list []int) (impl.Both, []int) { return one(impl.SeekBoth(b, -1, impl.SkStart)) },
		"CutBoth":              func(b impl.Both, list []int) (impl.Both, []int) { return one(impl.CutBoth(b, 3)) },
		"PlainOf":              func(b impl.Both, list []int) (impl.Both, []int) { return impl.Both{}, impl.PlainOf(b).Data },
	}
}

// No function changes its arguments, no result shares memory with an argument,
// and no two slices of a result share memory.
func TestFileResultsAreNew(t *testing.T) {
	for name, call := range bothCalls() {
		for _, script := range [][]int{{2, 5, 3, 60}, {2, 1, 0}, {2, 0}, {2, -1}} {
			for _, at := range []int{0, 4, 5, 59, 60} {
				for _, b := range bothsOf(atPlace(counted(5), at, 1, script...)) {
					given := impl.Both{Dev: impl.Device{Data: roomy(b.Dev.Data), At: at, Script: roomy(script), Step: 1}, In: roomy(b.In), Out: roomy(b.Out), Size: b.Size}
					list := roomy(taken(12))
					next, got := call(given, list)
					impl.ValidBoth(given)
					impl.TellBoth(given)
					d := given.Dev
					if !intact(d.Data, b.Dev.Data) || !intact(d.Script, script) || !intact(given.In, b.In) || !intact(given.Out, b.Out) || !intact(list, taken(12)) {
						t.Errorf("%s: an argument was changed", name)
					}
					checkApart(t, name, d.Data, d.Script, given.In, given.Out, list, next.Dev.Data, next.Dev.Script, next.In, next.Out, got)
				}
			}
		}
	}
}

func TestPlainResultsAreNew(t *testing.T) {
	for name, call := range map[string]func(p impl.Plain, list []int) (impl.Plain, []int){
		"PlainRead":             func(p impl.Plain, list []int) (impl.Plain, []int) { return impl.PlainRead(p, 2) },
		"PlainRead of nothing":  func(p impl.Plain, list []int) (impl.Plain, []int) { return impl.PlainRead(p, 0) },
		"PlainRead of all":      func(p impl.Plain, list []int) (impl.Plain, []int) { return impl.PlainRead(p, 60) },
		"PlainWrite":            plainWritten,
		"PlainWrite of nothing": func(p impl.Plain, list []int) (impl.Plain, []int) { return plainWritten(p, nil) },
		"PlainSeek": func(p impl.Plain, list []int) (impl.Plain, []int) {
			next, _ := impl.PlainSeek(p, 1, impl.SkStart)
			return next, nil
		},
	} {
		for _, p := range somePlains() {
			given := impl.Plain{Data: roomy(p.Data), At: p.At}
			list := roomy(taken(12))
			next, got := call(given, list)
			if !intact(given.Data, p.Data) || !intact(list, taken(12)) {
				t.Errorf("%s: an argument was changed", name)
			}
			checkApart(t, name, given.Data, list, next.Data, got)
		}
	}
}

// plainWritten is PlainWrite without its number.
func plainWritten(p impl.Plain, list []int) (impl.Plain, []int) {
	next, _ := impl.PlainWrite(p, list)
	return next, nil
}
