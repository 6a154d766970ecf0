package tests

import (
	"slices"
	"testing"

	"loop.example/streamlayers/impl"
)

// taken returns n bytes that a writer may be given, with a 10 here and there, two of them at once.
func taken(n int) []int {
	list := make([]int, n)
	for i := range list {
		list[i] = 255 - i*3
		if i%7 == 2 || i == 10 {
			list[i] = 10
		}
	}
	return list
}

// listsTaken returns lists that WriteBytes and WriteLines may be given.
func listsTaken() [][]int {
	return [][]int{nil, {0}, {10}, {255, 10}, {10, 10, 1}, taken(5), taken(18), zeros(60), taken(60)}
}

// wrongLists are lists that no function takes for bytes.
func wrongLists() [][]int {
	return [][]int{counted(61), zeros(61), {-1}, {256}, {1, 2, 256}, {10, 2, -1}, {huge[0]}, {huge[3]}, joined(taken(59), []int{256})}
}

// writerAt returns the writer of a device with a number of bytes in Buf that stand nowhere else.
func writerAt(d impl.Device, buf int, size int) impl.Writer {
	w := impl.Writer{Dev: d, Size: size}
	for i := range buf {
		w.Buf = append(w.Buf, 201+i)
	}
	return w
}

// newWriter returns the writer of bytes and a script, with nothing in Buf.
func newWriter(data []int, size int, script ...int) impl.Writer {
	return writerAt(atPlace(data, 0, 0, script...), 0, size)
}

// someWriters returns valid writers that may begin to write: with places in, at
// and behind the end, with nothing, something and as much as possible in Buf,
// with bytes beyond the room, and with calls that write nothing.
func someWriters() []impl.Writer {
	scripts := [][]int{nil, {60, 2, 1}, {2, 0, 3, -1, 1}, {0, 0, 5}, {-1, 1, 1, 0, 4, 60, -1}, {1, 1, 1, 1, 1, 1, 1, 1, 1, 1, 1, 0}}
	var out []impl.Writer
	for _, n := range []int{0, 1, 5, 24, 59, 60} {
		for _, at := range []int{0, 1, 4, 30, 58, 59, 60} {
			for _, script := range scripts {
				for _, step := range []int{0, 1, lastStep} {
					d := atPlace(counted(n), at, step, script...)
					for _, size := range []int{1, 2, 5, 16} {
						for _, buf := range slices.Compact([]int{0, 1, min(3, size), size}) {
							out = append(out, writerAt(d, buf, size))
						}
					}
				}
			}
		}
	}
	return out
}

// wrongWriters returns writers each of which is not valid for one reason.
func wrongWriters() []impl.Writer {
	d := atPlace([]int{1, 2, 3}, 1, 0, 2)
	var out []impl.Writer
	for _, wrong := range wrongDevices() {
		out = append(out, writerAt(wrong, 0, 1), writerAt(wrong, 1, 1))
	}
	for _, size := range append([]int{0, -1, 17}, huge...) {
		out = append(out, writerAt(d, 0, size))
	}
	for _, n := range append([]int{-1, 256}, huge...) {
		out = append(out,
			impl.Writer{Dev: d, Buf: []int{n}, Size: 4},
			impl.Writer{Dev: d, Buf: []int{1, 2, n}, Size: 4},
		)
	}
	return append(out,
		writerAt(d, 1, 0),
		writerAt(d, 2, 1),
		writerAt(d, 16, 15),
		writerAt(d, 17, 16),
		writerAt(d, 17, 17),
	)
}

// sameWriter reports whether two writers are the same, where nil is empty.
func sameWriter(a, b impl.Writer) bool {
	return sameDevice(a.Dev, b.Dev) && slices.Equal(a.Buf, b.Buf) && a.Size == b.Size
}

// isZeroWriter reports whether a writer is the zero value.
func isZeroWriter(w impl.Writer) bool {
	return isZero(w.Dev) && len(w.Buf) == 0 && w.Size == 0
}

// writerModel is a writer that writes byte by byte: each byte fills the gap
// ahead of it with one 0 after the other.
type writerModel struct {
	dev   impl.Device
	waits []int
	size  int
}

// writerModelOf returns the model of a valid writer.
func writerModelOf(w impl.Writer) *writerModel {
	return &writerModel{dev: cloned(w.Dev), waits: slices.Clone(w.Buf), size: w.Size}
}

// writer returns the writer that the model stands for now.
func (m *writerModel) writer() impl.Writer {
	return impl.Writer{Dev: cloned(m.dev), Buf: slices.Clone(m.waits), Size: m.size}
}

// put writes the first byte that waits.
func (m *writerModel) put() {
	for len(m.dev.Data) <= m.dev.At {
		m.dev.Data = append(m.dev.Data, 0)
	}
	m.dev.Data[m.dev.At] = m.waits[0]
	m.dev.At++
	m.waits = m.waits[1:]
}

// flush writes what waits, and tells how it ended.
func (m *writerModel) flush() int {
	for len(m.waits) > 0 {
		may := mayHave(m.dev)
		m.dev.Step++
		switch {
		case may == -1:
			return impl.StFault
		case may == 0:
			return impl.StNone
		case m.dev.At == impl.MaxData:
			return impl.StFull
		}
		for ; may > 0 && len(m.waits) > 0 && m.dev.At < impl.MaxData; may-- {
			m.put()
		}
	}
	return impl.StOk
}

// take takes bytes, with a flush behind each line if lines is true, and tells how many and how it ended.
func (m *writerModel) take(list []int, lines bool) (int, int) {
	for i, b := range list {
		if len(m.waits) == m.size {
			if st := m.flush(); len(m.waits) == m.size {
				return i, st
			}
		}
		m.waits = append(m.waits, b)
		if lines && b == 10 {
			if st := m.flush(); st != impl.StOk {
				return i + 1, st
			}
		}
	}
	return len(list), impl.StOk
}

// seen returns the bytes that are seen, where the device lets all calls write.
func (m *writerModel) seen() []int {
	for len(m.waits) > 0 && m.dev.At < impl.MaxData {
		m.put()
	}
	return m.dev.Data
}

// seenOf returns the bytes that are seen of a writer, by the model.
func seenOf(w impl.Writer) []int {
	return writerModelOf(w).seen()
}

// checkWriter checks a writer that a function returned, and how it ended, by the model.
func checkWriter(t *testing.T, what string, w, got impl.Writer, st int, m *writerModel, wantSt int) {
	t.Helper()
	if want := m.writer(); !sameWriter(got, want) || st != wantSt {
		t.Fatalf("%s(%v) = %v, %d, not %v, %d", what, w, got, st, want, wantSt)
	}
	if !impl.ValidWriter(got) {
		t.Fatalf("%s(%v) = %v, which is not valid", what, w, got)
	}
}

func TestValidWriter(t *testing.T) {
	for _, w := range someWriters() {
		if !impl.ValidWriter(w) {
			t.Fatalf("ValidWriter(%v) = false", w)
		}
	}
	for _, w := range []impl.Writer{
		{Size: 1},
		{Size: 16},
		{Buf: []int{}, Size: 1},
		{Buf: []int{0, 255}, Size: 2},
		writerAt(atPlace(counted(60), 60, 1000, 0, -1), 16, 16),
		writerAt(atPlace(nil, 60, 1000), 1, 1),
		{Buf: roomy([]int{5}), Size: 1},
	} {
		if !impl.ValidWriter(w) {
			t.Errorf("ValidWriter(%v) = false", w)
		}
	}
	for _, w := range wrongWriters() {
		if impl.ValidWriter(w) {
			t.Errorf("ValidWriter(%v) = true", w)
		}
	}
}

// Promise 26: a valid writer is valid after FlushWriter.
func TestPromise26WritersCanBeFlushed(t *testing.T) {
	for _, w := range someWriters() {
		next, st := impl.FlushWriter(w)
		if !impl.ValidWriter(next) {
			t.Fatalf("FlushWriter(%v) = %v, %d", w, next, st)
		}
		m := writerModelOf(w)
		wantSt := m.flush()
		checkWriter(t, "FlushWriter", w, next, st, m, wantSt)
		if (st == impl.StOk) != (len(next.Buf) == 0) {
			t.Fatalf("FlushWriter(%v) = %v, %d", w, next, st)
		}
	}
}

// writeStep is one of several writes, one after the other: what is given, how
// many bytes are taken and how that ends, and the bytes of the device, its
// place, its number of calls, and what is not written yet, after that.
type writeStep struct {
	list     []int
	n, st    int
	data     []int
	at, step int
	buf      []int
}

// checkWrites checks writes, one after the other.
func checkWrites(t *testing.T, w impl.Writer, write func(w impl.Writer, list []int) (impl.Writer, int, int), steps []writeStep) {
	t.Helper()
	for i, s := range steps {
		next, n, st := write(w, s.list)
		want := impl.Writer{Dev: atPlace(s.data, s.at, s.step, w.Dev.Script...), Buf: s.buf, Size: w.Size}
		if n != s.n || st != s.st || !sameWriter(next, want) {
			t.Errorf("write %d, of %v, = %v, %d, %d", i, s.list, next, n, st)
		}
		w = next
	}
}

// flushAsWrite is FlushWriter as one of several writes, which takes nothing.
func flushAsWrite(w impl.Writer, list []int) (impl.Writer, int, int) {
	next, st := impl.FlushWriter(w)
	return next, 0, st
}

func TestFlushWriterByScript(t *testing.T) {
	w := impl.Writer{Dev: atPlace([]int{1, 2, 3}, 1, 0, 2, 0, 1, -1, 0, -1), Buf: []int{7, 8, 9, 6, 5}, Size: 5}
	checkWrites(t, w, flushAsWrite, []writeStep{
		{nil, 0, impl.StNone, []int{1, 7, 8}, 3, 2, []int{9, 6, 5}},
		{nil, 0, impl.StFault, []int{1, 7, 8, 9}, 4, 4, []int{6, 5}},
		{nil, 0, impl.StNone, []int{1, 7, 8, 9}, 4, 5, []int{6, 5}},
		{nil, 0, impl.StFault, []int{1, 7, 8, 9}, 4, 6, []int{6, 5}},
		{nil, 0, impl.StOk, []int{1, 7, 8, 9, 6, 5}, 6, 7, nil},
		{nil, 0, impl.StOk, []int{1, 7, 8, 9, 6, 5}, 6, 7, nil},
	})
}

// Nothing to write is no call, whatever the script has, and no gap is filled.
func TestFlushWriterOfNothing(t *testing.T) {
	for _, script := range [][]int{nil, {0}, {-1}} {
		for _, at := range []int{0, 3, 9, 60} {
			w := writerAt(atPlace(counted(3), at, 0, script...), 0, 4)
			if next, st := impl.FlushWriter(w); st != impl.StOk || !sameWriter(next, w) {
				t.Errorf("FlushWriter(%v) = %v, %d", w, next, st)
			}
		}
	}
}

func TestFlushWriterFillsGaps(t *testing.T) {
	w := impl.Writer{Dev: atPlace([]int{1, 2}, 5, 0, 0, 1), Buf: []int{7, 8}, Size: 4}
	checkWrites(t, w, flushAsWrite, []writeStep{
		{nil, 0, impl.StNone, []int{1, 2}, 5, 1, []int{7, 8}},
		{nil, 0, impl.StOk, []int{1, 2, 0, 0, 0, 7, 8}, 7, 3, nil},
	})
}

func TestFlushWriterBeyondTheRoom(t *testing.T) {
	full := joined(counted(58), []int{7, 8})
	w := impl.Writer{Dev: atPlace(counted(60), 58, 0, 60, 60, 0, -1), Buf: []int{7, 8, 9}, Size: 4}
	checkWrites(t, w, flushAsWrite, []writeStep{
		{nil, 0, impl.StFull, full, 60, 2, []int{9}},
		{nil, 0, impl.StNone, full, 60, 3, []int{9}},
		{nil, 0, impl.StFault, full, 60, 4, []int{9}},
		{nil, 0, impl.StFull, full, 60, 5, []int{9}},
	})
	// At MaxData nothing is written, and the gap stays.
	w = impl.Writer{Dev: atPlace(counted(3), 60, 0), Buf: []int{7}, Size: 1}
	checkWrites(t, w, flushAsWrite, []writeStep{{nil, 0, impl.StFull, counted(3), 60, 1, []int{7}}})
}

// Promise 27: SeenData of NewWriter is Data of the device.
func TestPromise27NewWritersHaveTakenNothing(t *testing.T) {
	for _, d := range someDevices() {
		for _, size := range []int{1, 2, 15, 16} {
			w, ok := impl.NewWriter(d, size)
			if !ok || !sameWriter(w, writerAt(d, 0, size)) {
				t.Fatalf("NewWriter(%v, %d) = %v, %v", d, size, w, ok)
			}
			if seen := impl.SeenData(w); !slices.Equal(seen, d.Data) {
				t.Fatalf("SeenData of NewWriter(%v, %d) = %v", d, size, seen)
			}
		}
	}
}

func TestNewWriterWrong(t *testing.T) {
	check := func(d impl.Device, size int) {
		t.Helper()
		if w, ok := impl.NewWriter(d, size); ok || !isZeroWriter(w) {
			t.Errorf("NewWriter(%v, %d) = %v, %v", d, size, w, ok)
		}
	}
	for _, size := range append([]int{0, -1, 17}, huge...) {
		check(atPlace(counted(5), 1, 0), size)
	}
	for _, d := range wrongDevices() {
		check(d, 1)
	}
}

// Promise 28: SeenData and TellWriter are the same after FlushWriter, and with
// StOk Data of Dev is SeenData.
func TestPromise28FlushingChangesNothingThatIsSeen(t *testing.T) {
	for _, w := range someWriters() {
		next, st := impl.FlushWriter(w)
		seen := impl.SeenData(w)
		if !slices.Equal(impl.SeenData(next), seen) || impl.TellWriter(next) != impl.TellWriter(w) {
			t.Fatalf("FlushWriter(%v) = %v, %d, of which %v is seen, not %v", w, next, st, impl.SeenData(next), seen)
		}
		if st == impl.StOk && !slices.Equal(next.Dev.Data, seen) {
			t.Fatalf("FlushWriter(%v) = %v, but seen was %v", w, next, seen)
		}
	}
}

// The bytes of WriteBytes are taken one after the other, and the first flush
// that leaves the buffer full ends it.
func TestWriteBytesAsByteByByte(t *testing.T) {
	for _, w := range someWriters() {
		for _, list := range listsTaken() {
			next, n, st := impl.WriteBytes(w, list)
			m := writerModelOf(w)
			wantN, wantSt := m.take(list, false)
			checkWriter(t, "WriteBytes", w, next, st, m, wantSt)
			if n != wantN || (st == impl.StOk) != (n == len(list)) {
				t.Fatalf("WriteBytes(%v, %v) = %v, %d, %d, not %d", w, list, next, n, st, wantN)
			}
		}
	}
}

// Promise 29: SeenData after WriteBytes is PlainWrite of the bytes that were
// taken, where TellWriter was, and TellWriter is as much greater.
func TestPromise29WhatIsTakenIsSeen(t *testing.T) {
	for _, w := range someWriters() {
		for _, list := range listsTaken() {
			next, n, _ := impl.WriteBytes(w, list)
			place, seen := impl.TellWriter(w), impl.SeenData(w)
			if place <= impl.MaxData {
				p, _ := impl.PlainWrite(impl.Plain{Data: seen, At: place}, list[:n])
				seen = p.Data
			}
			if !slices.Equal(impl.SeenData(next), seen) || impl.TellWriter(next) != place+n {
				t.Fatalf("WriteBytes(%v, %v) = %v, %d, of which %v is seen, not %v", w, list, next, n, impl.SeenData(next), seen)
			}
		}
	}
}

func TestWriteBytesByScript(t *testing.T) {
	w := newWriter([]int{1, 2, 3, 4, 5}, 3, 2, 0, -1, 1, 0)
	checkWrites(t, w, impl.WriteBytes, []writeStep{
		{nil, 0, impl.StOk, []int{1, 2, 3, 4, 5}, 0, 0, nil},
		{[]int{7, 8, 9}, 3, impl.StOk, []int{1, 2, 3, 4, 5}, 0, 0, []int{7, 8, 9}},
		{nil, 0, impl.StOk, []int{1, 2, 3, 4, 5}, 0, 0, []int{7, 8, 9}},
		// The flush fails in its second call, but has made room: the bytes are taken.
		{[]int{6, 11}, 2, impl.StOk, []int{7, 8, 3, 4, 5}, 2, 2, []int{9, 6, 11}},
		{[]int{12}, 0, impl.StFault, []int{7, 8, 3, 4, 5}, 2, 3, []int{9, 6, 11}},
		// Room for one byte, and then a flush that makes room for all.
		{[]int{12, 13, 14}, 3, impl.StOk, []int{7, 8, 9, 6, 11, 12}, 6, 6, []int{13, 14}},
	})
	// Room for one byte, and then a flush that makes none.
	w = impl.Writer{Dev: atPlace([]int{7, 8, 3, 4, 5}, 2, 3, 2, 0, -1, 1, 0, -1), Buf: []int{9, 6, 11}, Size: 3}
	checkWrites(t, w, impl.WriteBytes, []writeStep{
		{[]int{12, 13, 14}, 1, impl.StFault, []int{7, 8, 9, 4, 5}, 3, 6, []int{6, 11, 12}},
		{[]int{13, 14}, 2, impl.StOk, []int{7, 8, 9, 6, 11, 12}, 6, 7, []int{13, 14}},
	})
}

// A buffer that is full and stays full takes nothing.
func TestWriteBytesFullBuffer(t *testing.T) {
	for _, c := range []struct{ may, at, st int }{
		{0, 1, impl.StNone},
		{-1, 1, impl.StFault},
		{0, 60, impl.StNone},
		{-1, 60, impl.StFault},
		{1, 60, impl.StFull},
		{60, 60, impl.StFull},
	} {
		w := writerAt(atPlace(counted(3), c.at, 0, c.may), 2, 2)
		next, n, st := impl.WriteBytes(w, []int{5, 6})
		w.Dev.Step = 1
		if n != 0 || st != c.st || !sameWriter(next, w) {
			t.Errorf("WriteBytes at %d with %d = %v, %d, %d", c.at, c.may, next, n, st)
		}
	}
	// Without bytes a full buffer is no reason to flush.
	w := writerAt(atPlace(counted(3), 1, 0, -1), 2, 2)
	if next, n, st := impl.WriteBytes(w, nil); n != 0 || st != impl.StOk || !sameWriter(next, w) {
		t.Errorf("WriteBytes of nothing = %v, %d, %d", next, n, st)
	}
}

func TestWriteBytesGapsAndRoom(t *testing.T) {
	w := writerAt(atPlace([]int{1, 2}, 5, 0), 0, 2)
	checkWrites(t, w, impl.WriteBytes, []writeStep{
		{[]int{7, 8}, 2, impl.StOk, []int{1, 2}, 5, 0, []int{7, 8}},
		{[]int{9}, 1, impl.StOk, []int{1, 2, 0, 0, 0, 7, 8}, 7, 1, []int{9}},
	})
	// Bytes beyond MaxData are taken into the buffer, and stay there.
	w = writerAt(atPlace(counted(60), 57, 0), 0, 2)
	full := joined(counted(57), []int{7, 8, 9})
	checkWrites(t, w, impl.WriteBytes, []writeStep{
		{[]int{7, 8, 9, 6, 5, 4}, 5, impl.StFull, full, 60, 4, []int{6, 5}},
		{[]int{4}, 0, impl.StFull, full, 60, 5, []int{6, 5}},
		{nil, 0, impl.StOk, full, 60, 5, []int{6, 5}},
	})
	w = newWriter(nil, 16)
	if next, n, st := impl.WriteBytes(w, taken(60)); n != 60 || st != impl.StOk || !sameWriter(next, impl.Writer{Dev: atPlace(taken(48), 48, 3), Buf: taken(60)[48:], Size: 16}) {
		t.Errorf("WriteBytes of 60 bytes = %v, %d, %d", next, n, st)
	}
}

// Promise 30: WriteBytes of the first and of the other bytes takes what
// WriteBytes of all takes.
func TestPromise30TwoWritesAreOne(t *testing.T) {
	for _, w := range someWriters() {
		for _, list := range [][]int{{255, 10}, taken(18), taken(60)} {
			all, n, st := impl.WriteBytes(w, list)
			for _, k := range []int{0, 1, 2, 5, 16, 17, len(list)} {
				if k > len(list) {
					continue
				}
				first, n1, st1 := impl.WriteBytes(w, list[:k])
				if st1 != impl.StOk {
					// No call may be asked to go on behind one that failed: it would try again.
					if n1 != n || st1 != st || !sameWriter(first, all) {
						t.Fatalf("WriteBytes(%v) of %d and of all of %v differ", w, k, list)
					}
					continue
				}
				if first.Dev.Step > lastStep {
					continue
				}
				second, n2, st2 := impl.WriteBytes(first, list[k:])
				if n1+n2 != n || st2 != st || !sameWriter(second, all) {
					t.Fatalf("WriteBytes(%v) of %d and the others of %v = %v, %d, %d, not %v, %d, %d", w, k, list, second, n1+n2, st2, all, n, st)
				}
			}
		}
	}
}

// Promise 31: TellWriter is At of Dev, more by what is not written yet.
func TestPromise31WritersAreAheadOfTheirDevices(t *testing.T) {
	for _, w := range someWriters() {
		if place := impl.TellWriter(w); place != w.Dev.At+len(w.Buf) {
			t.Fatalf("TellWriter(%v) = %d", w, place)
		}
	}
	for _, c := range []struct {
		w    impl.Writer
		want int
	}{
		{writerAt(atPlace(nil, 0, 0), 0, 1), 0},
		{writerAt(atPlace(counted(5), 3, 901), 2, 4), 5},
		{writerAt(atPlace(nil, 60, 1000), 16, 16), 76},
	} {
		if place := impl.TellWriter(c.w); place != c.want {
			t.Errorf("TellWriter(%v) = %d", c.w, place)
		}
	}
	for _, w := range wrongWriters() {
		if place := impl.TellWriter(w); place != -1 {
			t.Errorf("TellWriter(%v) = %d", w, place)
		}
	}
}

// seekByModel returns the writer at another place, and how that ends, by the model.
func seekByModel(w impl.Writer, off, whence int) (*writerModel, int) {
	m := writerModelOf(w)
	if st := m.flush(); st != impl.StOk {
		return m, st
	}
	place := off + []int{impl.SkStart: 0, impl.SkNow: m.dev.At, impl.SkEnd: len(m.dev.Data)}[whence]
	if place < 0 || place > impl.MaxData {
		return m, impl.StWrong
	}
	m.dev.At = place
	return m, impl.StOk
}

// Promise 32: with StOk Data of Dev after SeekWriter is SeenData, and nothing
// is left in Buf.
func TestPromise32WritersFlushBeforeTheyGo(t *testing.T) {
	for _, w := range someWriters() {
		seen := impl.SeenData(w)
		for _, whence := range whences {
			for _, off := range []int{-60, -58, -5, -1, 0, 1, 2, 30, 55, 59, 60} {
				next, st := impl.SeekWriter(w, off, whence)
				m, wantSt := seekByModel(w, off, whence)
				checkWriter(t, "SeekWriter", w, next, st, m, wantSt)
				if st == impl.StOk && (!slices.Equal(next.Dev.Data, seen) || len(next.Buf) != 0) {
					t.Fatalf("SeekWriter(%v, %d, %d) = %v, %d", w, off, whence, next, st)
				}
			}
		}
	}
}

func TestSeekWriterPlaces(t *testing.T) {
	w := writerAt(atPlace(counted(20), 7, 0, 2), 3, 4) // at 10, and a flush makes 2 calls
	data := joined(counted(7), []int{201, 202, 203}, counted(20)[10:])
	for _, c := range []struct{ off, whence, at int }{
		{0, impl.SkStart, 0}, {9, impl.SkStart, 9}, {60, impl.SkStart, 60}, {-1, impl.SkStart, -1}, {-60, impl.SkStart, -1},
		{0, impl.SkNow, 10}, {1, impl.SkNow, 11}, {-3, impl.SkNow, 7}, {-10, impl.SkNow, 0}, {50, impl.SkNow, 60}, {-11, impl.SkNow, -1}, {51, impl.SkNow, -1},
		{0, impl.SkEnd, 20}, {-20, impl.SkEnd, 0}, {40, impl.SkEnd, 60}, {-21, impl.SkEnd, -1}, {41, impl.SkEnd, -1}, {60, impl.SkEnd, -1},
	} {
		want, wantSt := impl.Writer{Dev: atPlace(data, c.at, 2, 2), Size: 4}, impl.StOk
		if c.at < 0 {
			// The flush ended well, but there is no such place: the writer stays.
			want.Dev.At, wantSt = 10, impl.StWrong
		}
		if next, st := impl.SeekWriter(w, c.off, c.whence); st != wantSt || !sameWriter(next, want) {
			t.Errorf("SeekWriter(%d, %d) = %v, %d", c.off, c.whence, next, st)
		}
	}
	// The end is where it is after the flush.
	w = writerAt(atPlace(counted(5), 4, 0), 3, 4)
	if next, st := impl.SeekWriter(w, -1, impl.SkEnd); st != impl.StOk || next.Dev.At != 6 {
		t.Errorf("SeekWriter behind the new end = %v, %d", next, st)
	}
}

// A flush that fails is how a seek ends, also where there is no such place.
func TestSeekWriterFlushFails(t *testing.T) {
	for _, off := range []int{0, -1, 5} {
		w := writerAt(atPlace(counted(5), 1, 0, 1, 0, -1), 3, 4)
		want := impl.Writer{Dev: atPlace(joined(counted(1), []int{201}, counted(5)[2:]), 2, 2, 1, 0, -1), Buf: []int{202, 203}, Size: 4}
		next, st := impl.SeekWriter(w, off, impl.SkStart)
		if st != impl.StNone || !sameWriter(next, want) {
			t.Errorf("SeekWriter(%d) = %v, %d", off, next, st)
		}
		want.Dev.Step = 3
		if next, st = impl.SeekWriter(next, off, impl.SkStart); st != impl.StFault || !sameWriter(next, want) {
			t.Errorf("SeekWriter(%d) = %v, %d", off, next, st)
		}
		w = writerAt(atPlace(counted(3), 60, 0), 1, 4)
		want = writerAt(atPlace(counted(3), 60, 1), 1, 4)
		if next, st = impl.SeekWriter(w, off, impl.SkStart); st != impl.StFull || !sameWriter(next, want) {
			t.Errorf("SeekWriter(%d) = %v, %d", off, next, st)
		}
	}
}

// Promise 33: with StOk Data of Dev after CutWriter has n bytes, and begins
// with SeenData as far as it goes.
func TestPromise33CutWritersAreAsLongAsTold(t *testing.T) {
	for _, w := range someWriters() {
		seen := impl.SeenData(w)
		for _, n := range []int{0, 1, 5, 23, 24, 25, 59, 60} {
			next, st := impl.CutWriter(w, n)
			m := writerModelOf(w)
			wantSt := m.flush()
			if wantSt == impl.StOk {
				m.dev.Data = joined(m.dev.Data, zeros(impl.MaxData))[:n]
			}
			checkWriter(t, "CutWriter", w, next, st, m, wantSt)
			if st == impl.StOk && !slices.Equal(next.Dev.Data, joined(seen, zeros(impl.MaxData))[:n]) {
				t.Fatalf("CutWriter(%v, %d) = %v, %d", w, n, next, st)
			}
		}
	}
}

func TestCutWriterByScript(t *testing.T) {
	w := writerAt(atPlace([]int{1, 2, 3}, 2, 0, 1, 0), 2, 2)
	next, st := impl.CutWriter(w, 1)
	want := impl.Writer{Dev: atPlace([]int{1, 2, 201}, 3, 2, 1, 0), Buf: []int{202}, Size: 2}
	if st != impl.StNone || !sameWriter(next, want) {
		t.Errorf("CutWriter = %v, %d", next, st)
	}
	// Its place stays, also behind the end.
	want = impl.Writer{Dev: atPlace([]int{1}, 4, 3, 1, 0), Size: 2}
	if next, st = impl.CutWriter(next, 1); st != impl.StOk || !sameWriter(next, want) {
		t.Errorf("CutWriter = %v, %d", next, st)
	}
	// What was cut does not come back.
	want.Dev.Data = []int{1, 0, 0, 0, 0}
	if next, st = impl.CutWriter(next, 5); st != impl.StOk || !sameWriter(next, want) {
		t.Errorf("CutWriter = %v, %d", next, st)
	}
	w = writerAt(atPlace(counted(60), 60, 0), 1, 2)
	if next, st = impl.CutWriter(w, 0); st != impl.StFull || !sameWriter(next, writerAt(atPlace(counted(60), 60, 1), 1, 2)) {
		t.Errorf("CutWriter = %v, %d", next, st)
	}
}

// Promise 34: SeenData begins with what Data of Dev has ahead of At, and goes
// at least as far as TellWriter, up to MaxData, if there is something in Buf,
// and At of Dev is less than MaxData.
func TestPromise34WhatIsSeenIsWhatWillBe(t *testing.T) {
	for _, w := range someWriters() {
		seen := impl.SeenData(w)
		before := w.Dev.Data[:min(w.Dev.At, len(w.Dev.Data))]
		if len(seen) < len(before) || !slices.Equal(seen[:len(before)], before) {
			t.Fatalf("SeenData(%v) = %v", w, seen)
		}
		if len(w.Buf) > 0 && w.Dev.At < impl.MaxData && len(seen) < min(impl.TellWriter(w), impl.MaxData) {
			t.Fatalf("SeenData(%v) = %v", w, seen)
		}
		if want := seenOf(w); !slices.Equal(seen, want) {
			t.Fatalf("SeenData(%v) = %v, not %v", w, seen, want)
		}
	}
}

func TestSeenData(t *testing.T) {
	for _, c := range []struct {
		data []int
		at   int
		buf  []int
		want []int
	}{
		{nil, 0, nil, nil},
		{nil, 0, []int{7}, []int{7}},
		{[]int{1, 2, 3}, 0, []int{7, 8}, []int{7, 8, 3}},
		{[]int{1, 2, 3}, 2, []int{7, 8}, []int{1, 2, 7, 8}},
		{[]int{1, 2, 3}, 3, []int{7, 8}, []int{1, 2, 3, 7, 8}},
		{[]int{1, 2, 3}, 5, []int{7, 8}, []int{1, 2, 3, 0, 0, 7, 8}},
		{[]int{1, 2, 3}, 5, nil, []int{1, 2, 3}},
		{[]int{1, 2, 3}, 60, []int{7, 8}, []int{1, 2, 3}},
		{[]int{1, 2, 3}, 59, []int{7, 8}, joined([]int{1, 2, 3}, zeros(56), []int{7})},
		{counted(60), 58, []int{7, 8, 9}, joined(counted(58), []int{7, 8})},
		{counted(60), 60, []int{7, 8, 9}, counted(60)},
	} {
		// No call is made, so that neither Step nor the script matters.
		for _, step := range []int{0, lastStep + 1, 1000} {
			w := impl.Writer{Dev: atPlace(c.data, c.at, step, 0, -1), Buf: c.buf, Size: 3}
			if seen := impl.SeenData(w); !slices.Equal(seen, c.want) {
				t.Errorf("SeenData(%v) = %v", w, seen)
			}
		}
	}
	for _, w := range wrongWriters() {
		if seen := impl.SeenData(w); len(seen) != 0 {
			t.Errorf("SeenData(%v) = %v", w, seen)
		}
	}
}

// The bytes of WriteLines are taken as by WriteBytes, with a flush behind each 10.
func TestWriteLinesAsByteByByte(t *testing.T) {
	for _, w := range someWriters() {
		for _, list := range listsTaken() {
			next, n, st := impl.WriteLines(w, list)
			m := writerModelOf(w)
			wantN, wantSt := m.take(list, true)
			checkWriter(t, "WriteLines", w, next, st, m, wantSt)
			if n != wantN {
				t.Fatalf("WriteLines(%v, %v) = %v, %d, %d, not %d", w, list, next, n, st, wantN)
			}
		}
	}
}

// Promise 35: with StOk no newline is left in Buf after WriteLines, if it had
// nothing, and SeenData is as after PlainWrite.
func TestPromise35LinesAreWrittenAtOnce(t *testing.T) {
	for _, w := range someWriters() {
		place := impl.TellWriter(w)
		for _, list := range listsTaken() {
			next, n, st := impl.WriteLines(w, list)
			if st == impl.StOk && len(w.Buf) == 0 && slices.Contains(next.Buf, 10) {
				t.Fatalf("WriteLines(%v, %v) = %v, with a line that is not written", w, list, next)
			}
			if impl.TellWriter(next) != place+n {
				t.Fatalf("WriteLines(%v, %v) = %v, %d", w, list, next, n)
			}
			if place > impl.MaxData {
				continue
			}
			if p, _ := impl.PlainWrite(impl.Plain{Data: impl.SeenData(w), At: place}, list[:n]); !slices.Equal(impl.SeenData(next), p.Data) {
				t.Fatalf("WriteLines(%v, %v) = %v, %d, of which %v is seen, not %v", w, list, next, n, impl.SeenData(next), p.Data)
			}
		}
	}
}

func TestWriteLinesByScript(t *testing.T) {
	w := newWriter(nil, 4, 1, 0, 2, -1, 60, 0)
	checkWrites(t, w, impl.WriteLines, []writeStep{
		{nil, 0, impl.StOk, nil, 0, 0, nil},
		{[]int{1, 2}, 2, impl.StOk, nil, 0, 0, []int{1, 2}},
		// The 10 is taken, but no more: the flush behind it fails.
		{[]int{10, 3}, 1, impl.StNone, []int{1}, 1, 2, []int{2, 10}},
		// A 10 that was there before is flushed with the others, not for itself.
		{[]int{3}, 1, impl.StOk, []int{1}, 1, 2, []int{2, 10, 3}},
		// It is the last one, and still ends in the way of its flush.
		{[]int{10}, 1, impl.StFault, []int{1, 2, 10}, 3, 4, []int{3, 10}},
		{[]int{10, 10, 5}, 2, impl.StNone, []int{1, 2, 10, 3, 10, 10}, 6, 6, []int{10}},
		{[]int{13, 11, 10, 10, 4}, 5, impl.StOk, []int{1, 2, 10, 3, 10, 10, 10, 13, 11, 10, 10}, 11, 8, []int{4}},
	})
}

// A full buffer is flushed for the next byte, whatever that is, and a flush
// that leaves it full ends it.
func TestWriteLinesFullBuffer(t *testing.T) {
	w := newWriter(nil, 2, 1, 0, 0)
	checkWrites(t, w, impl.WriteLines, []writeStep{
		{[]int{1, 2, 3, 10, 4}, 3, impl.StNone, []int{1}, 1, 3, []int{2, 3}},
		{[]int{10, 4}, 2, impl.StOk, []int{1, 2, 3, 10}, 4, 5, []int{4}},
	})
	w = writerAt(atPlace(counted(60), 59, 0), 0, 2)
	full := joined(counted(59), []int{10})
	checkWrites(t, w, impl.WriteLines, []writeStep{
		{[]int{10, 10, 5}, 2, impl.StFull, full, 60, 2, []int{10}},
		{[]int{5, 10}, 1, impl.StFull, full, 60, 3, []int{10, 5}},
	})
}

// Promise 36: WriteBytes of as many bytes as RoomOf makes no call, and takes all.
func TestPromise36RoomIsTakenWithoutACall(t *testing.T) {
	for _, w := range someWriters() {
		room := impl.RoomOf(w)
		if room != w.Size-len(w.Buf) {
			t.Fatalf("RoomOf(%v) = %d", w, room)
		}
		list := taken(room)
		next, n, st := impl.WriteBytes(w, list)
		want := impl.Writer{Dev: w.Dev, Buf: joined(w.Buf, list), Size: w.Size}
		if n != room || st != impl.StOk || !sameWriter(next, want) {
			t.Fatalf("WriteBytes(%v) of %d bytes = %v, %d, %d", w, room, next, n, st)
		}
		// One byte more needs a call.
		if next, _, _ := impl.WriteBytes(w, taken(room+1)); next.Dev.Step == w.Dev.Step {
			t.Fatalf("WriteBytes(%v) of %d bytes made no call", w, room+1)
		}
	}
}

func TestRoomOf(t *testing.T) {
	for _, c := range []struct{ buf, size, want int }{{0, 1, 1}, {1, 1, 0}, {0, 16, 16}, {15, 16, 1}, {16, 16, 0}} {
		for _, step := range []int{0, lastStep + 1, 1000} {
			if room := impl.RoomOf(writerAt(atPlace(nil, 60, step, -1), c.buf, c.size)); room != c.want {
				t.Errorf("RoomOf a writer with %d of %d = %d", c.buf, c.size, room)
			}
		}
	}
	for _, w := range wrongWriters() {
		if room := impl.RoomOf(w); room != -1 {
			t.Errorf("RoomOf(%v) = %d", w, room)
		}
	}
}

// A writer at Step MaxCalls-MaxMore makes all the calls that an operation
// needs: Step is asked where it begins alone.
func TestWritersAtTheirLastStep(t *testing.T) {
	w := writerAt(atPlace(counted(60), 0, lastStep), 1, 1)
	want := impl.Writer{Dev: atPlace(joined([]int{201}, taken(59)), 60, lastStep+60), Buf: taken(60)[59:], Size: 1}
	if next, n, st := impl.WriteBytes(w, taken(60)); n != 60 || st != impl.StOk || !sameWriter(next, want) {
		t.Errorf("WriteBytes = %v, %d, %d", next, n, st)
	}
	lines := slices.Repeat([]int{10}, 60)
	want = impl.Writer{Dev: atPlace(joined([]int{201}, lines[:59]), 60, lastStep+61), Buf: []int{10}, Size: 1}
	if next, n, st := impl.WriteLines(w, lines); n != 60 || st != impl.StFull || !sameWriter(next, want) {
		t.Errorf("WriteLines = %v, %d, %d", next, n, st)
	}
	flushed := impl.Writer{Dev: atPlace(joined([]int{201}, counted(60)[1:]), 1, lastStep+1), Size: 1}
	if next, st := impl.FlushWriter(w); st != impl.StOk || !sameWriter(next, flushed) {
		t.Errorf("FlushWriter = %v, %d", next, st)
	}
	if next, st := impl.SeekWriter(w, 0, impl.SkNow); st != impl.StOk || !sameWriter(next, flushed) {
		t.Errorf("SeekWriter = %v, %d", next, st)
	}
	if next, st := impl.CutWriter(w, 60); st != impl.StOk || !sameWriter(next, flushed) {
		t.Errorf("CutWriter = %v, %d", next, st)
	}
}

// wrongWrite checks that a function says that its arguments are wrong.
func wrongWrite(t *testing.T, what string, next impl.Writer, n int, st int) {
	t.Helper()
	if !isZeroWriter(next) || n != 0 || st != impl.StWrong {
		t.Errorf("%s = %v, %d, %d", what, next, n, st)
	}
}

// wrongWriter checks that each function that makes calls says that the writer is wrong.
func wrongWriter(t *testing.T, w impl.Writer) {
	t.Helper()
	next, st := impl.FlushWriter(w)
	wrongWrite(t, "FlushWriter", next, 0, st)
	for _, list := range listsTaken() {
		next, n, st := impl.WriteBytes(w, list)
		wrongWrite(t, "WriteBytes", next, n, st)
		next, n, st = impl.WriteLines(w, list)
		wrongWrite(t, "WriteLines", next, n, st)
	}
	for _, whence := range whences {
		for _, off := range []int{-60, 0, 60} {
			next, st := impl.SeekWriter(w, off, whence)
			wrongWrite(t, "SeekWriter", next, 0, st)
		}
	}
	for _, n := range []int{0, 60} {
		next, st := impl.CutWriter(w, n)
		wrongWrite(t, "CutWriter", next, 0, st)
	}
}

func TestWritersWrong(t *testing.T) {
	for _, w := range wrongWriters() {
		wrongWriter(t, w)
	}
	// One step too many, also where no call would be needed.
	for _, step := range []int{lastStep + 1, 999, 1000} {
		for _, buf := range []int{0, 3, 4} {
			wrongWriter(t, writerAt(atPlace(counted(24), 8, step), buf, 4))
			wrongWriter(t, writerAt(atPlace(nil, 60, step, -1), buf, 4))
		}
	}
}

// Arguments that are wrong are told ahead of a flush, however that would end.
func TestWritersWrongNumbers(t *testing.T) {
	for _, buf := range []int{0, 3, 4} {
		for _, script := range [][]int{nil, {0}, {2, -1}} {
			w := writerAt(atPlace(counted(24), 8, 0, script...), buf, 4)
			for _, list := range wrongLists() {
				next, n, st := impl.WriteBytes(w, list)
				wrongWrite(t, "WriteBytes", next, n, st)
				next, n, st = impl.WriteLines(w, list)
				wrongWrite(t, "WriteLines", next, n, st)
			}
			for _, off := range append([]int{-61, 61}, huge...) {
				for _, whence := range whences {
					next, st := impl.SeekWriter(w, off, whence)
					wrongWrite(t, "SeekWriter", next, 0, st)
				}
			}
			for _, whence := range append([]int{-1, 3}, huge...) {
				next, st := impl.SeekWriter(w, 0, whence)
				wrongWrite(t, "SeekWriter", next, 0, st)
			}
			for _, n := range append([]int{-1, 61}, huge...) {
				next, st := impl.CutWriter(w, n)
				wrongWrite(t, "CutWriter", next, 0, st)
			}
		}
	}
}

// writerCalls are the functions that return writers or bytes that are seen.
func writerCalls() map[string]func(w impl.Writer, list []int) (impl.Writer, []int) {
	one := func(next impl.Writer, st int) (impl.Writer, []int) {
		return next, nil
	}
	two := func(next impl.Writer, n int, st int) (impl.Writer, []int) {
		return next, nil
	}
	return map[string]func(w impl.Writer, list []int) (impl.Writer, []int){
		"NewWriter": func(w impl.Writer, list []int) (impl.Writer, []int) {
			next, _ := impl.NewWriter(w.Dev, w.Size)
			return next, nil
		},
		"FlushWriter":           func(w impl.Writer, list []int) (impl.Writer, []int) { return one(impl.FlushWriter(w)) },
		"WriteBytes":            func(w impl.Writer, list []int) (impl.Writer, []int) { return two(impl.WriteBytes(w, list)) },
		"WriteBytes of nothing": func(w impl.Writer, list []int) (impl.Writer, []int) { return two(impl.WriteBytes(w, nil)) },
		"WriteLines":            func(w impl.Writer, list []int) (impl.Writer, []int) { return two(impl.WriteLines(w, list)) },
		"SeekWriter":            func(w impl.Writer, list []int) (impl.Writer, []int) { return one(impl.SeekWriter(w, 0, impl.SkEnd)) },
		"SeekWriter to no place": func(w impl.Writer, list []int) (impl.Writer, []int) {
			return one(impl.SeekWriter(w, -1, impl.SkStart))
		},
		"CutWriter": func(w impl.Writer, list []int) (impl.Writer, []int) { return one(impl.CutWriter(w, 3)) },
		"SeenData":  func(w impl.Writer, list []int) (impl.Writer, []int) { return impl.Writer{}, impl.SeenData(w) },
	}
}

// No function changes its arguments, no result shares memory with an argument,
// and no two slices of a result share memory.
func TestWriterResultsAreNew(t *testing.T) {
	for name, call := range writerCalls() {
		for _, script := range [][]int{{2, 5, 3, 60}, {2, 1, 0}, {2, 0}, {2, -1}} {
			for _, at := range []int{0, 4, 7, 59, 60} {
				for _, k := range []int{0, 1, 4, 5} {
					data, script, buf, list := roomy(counted(5)), roomy(script), roomy(counted(5)[5-k:]), roomy(taken(12))
					w := impl.Writer{Dev: impl.Device{Data: data, At: at, Script: script, Step: 1}, Buf: buf, Size: 5}
					before := impl.Writer{Dev: cloned(w.Dev), Buf: slices.Clone(buf), Size: 5}
					next, got := call(w, list)
					impl.ValidWriter(w)
					impl.TellWriter(w)
					impl.RoomOf(w)
					if !intact(data, before.Dev.Data) || !intact(script, before.Dev.Script) || !intact(buf, before.Buf) || !intact(list, taken(12)) {
						t.Errorf("%s: an argument was changed", name)
					}
					checkApart(t, name, data, script, buf, list, next.Dev.Data, next.Dev.Script, next.Buf, got)
				}
			}
		}
	}
}
