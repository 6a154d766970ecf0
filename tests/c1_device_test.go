package tests

import (
	"slices"
	"testing"

	"loop.example/streamlayers/impl"
)

// countsRead are numbers of bytes that ReadDevice may be asked for.
var countsRead = []int{1, 2, 3, 30, 59, 60}

// listsWritten returns lists that WriteDevice may be given.
func listsWritten() [][]int {
	return [][]int{{0}, {255}, {200, 0, 100}, counted(59), counted(60)}
}

// mayHave returns what the next call of a device may have, by its script.
func mayHave(d impl.Device) int {
	if d.Step < len(d.Script) {
		return d.Script[d.Step]
	}
	return impl.MaxData
}

// checkDevice checks a device that a call or a seek or a cut returned.
func checkDevice(t *testing.T, what string, got, want impl.Device) {
	t.Helper()
	if !sameDevice(got, want) {
		t.Errorf("%s = %v, not %v", what, got, want)
	}
}

func TestConstantsOfDevices(t *testing.T) {
	got := []int{impl.MaxData, impl.MaxScript, impl.MaxCalls, impl.StOk, impl.StEnd, impl.StNone, impl.StFault, impl.StFull, impl.StWrong, impl.SkStart, impl.SkNow, impl.SkEnd}
	if want := []int{60, 12, 1000, 0, 1, 2, 3, 4, 5, 0, 1, 2}; !slices.Equal(got, want) {
		t.Errorf("the constants are %v", got)
	}
}

func TestValidDeviceLimits(t *testing.T) {
	full := atPlace(counted(60), 60, 1000, zeros(12)...)
	for _, d := range []impl.Device{
		{},
		full,
		atPlace([]int{0, 255}, 0, 0, -1, 60),
		atPlace(nil, 60, 0),
		atPlace(nil, 0, 1000),
		atPlace([]int{}, 0, 0, []int{}...),
	} {
		if !impl.ValidDevice(d) {
			t.Errorf("ValidDevice(%v) = false", d)
		}
	}
	for _, d := range wrongDevices() {
		if impl.ValidDevice(d) {
			t.Errorf("ValidDevice(%v) = true", d)
		}
	}
}

// Promise 1: NewDevice of Data and Script of a valid device is valid.
func TestPromise1DevicesCanBeMadeAgain(t *testing.T) {
	for _, d := range someDevices() {
		n, ok := impl.NewDevice(d.Data, d.Script)
		if !ok || !impl.ValidDevice(n) {
			t.Fatalf("NewDevice(%v, %v) = %v, %v", d.Data, d.Script, n, ok)
		}
		checkDevice(t, "NewDevice", n, atPlace(d.Data, 0, 0, d.Script...))
	}
}

func TestNewDeviceWrong(t *testing.T) {
	for _, d := range wrongDevices() {
		if impl.ValidDevice(atPlace(d.Data, 0, 0, d.Script...)) {
			continue // only its place or its step is wrong
		}
		if n, ok := impl.NewDevice(d.Data, d.Script); ok || !isZero(n) {
			t.Errorf("NewDevice(%v, %v) = %v, %v", d.Data, d.Script, n, ok)
		}
	}
	for _, c := range []struct{ data, script []int }{{counted(61), nil}, {[]int{-1}, nil}, {[]int{256}, nil}, {nil, zeros(13)}, {nil, []int{-2}}, {nil, []int{61}}} {
		if n, ok := impl.NewDevice(c.data, c.script); ok || !isZero(n) {
			t.Errorf("NewDevice(%v, %v) = %v, %v", c.data, c.script, n, ok)
		}
	}
}

// Promise 2: RestOf NewDevice are the bytes.
func TestPromise2NewDevicesHaveAllBytesAhead(t *testing.T) {
	for n := 0; n <= impl.MaxData; n++ {
		for _, script := range [][]int{nil, {0}, {-1, 2}, {60}} {
			d, ok := impl.NewDevice(counted(n), script)
			if rest := impl.RestOf(d); !ok || !slices.Equal(rest, counted(n)) {
				t.Errorf("RestOf NewDevice of %d bytes = %v, %v", n, rest, ok)
			}
		}
	}
}

// Promise 3: the bytes of ReadDevice are the first ones of RestOf, which has
// no more than the others then.
func TestPromise3DevicesGiveWhatIsAhead(t *testing.T) {
	for _, d := range someDevices() {
		if d.Step == impl.MaxCalls {
			continue
		}
		for _, n := range countsRead {
			next, list, _ := impl.ReadDevice(d, n)
			if !slices.Equal(joined(list, impl.RestOf(next)), impl.RestOf(d)) {
				t.Fatalf("ReadDevice(%v, %d) = %v, %v", d, n, next, list)
			}
			want := cloned(d)
			want.At += len(list)
			want.Step++
			checkDevice(t, "ReadDevice", next, want)
		}
	}
}

// Promise 4: ReadDevice has bytes, at most n, exactly if it ends with StOk,
// and StEnd only if there are none ahead.
func TestPromise4CallsEndWellWithBytes(t *testing.T) {
	for _, d := range someDevices() {
		if d.Step == impl.MaxCalls {
			continue
		}
		for _, n := range countsRead {
			_, list, st := impl.ReadDevice(d, n)
			ahead := len(impl.RestOf(d))
			wantSt, want := impl.StOk, min(n, mayHave(d), ahead)
			switch {
			case mayHave(d) == -1:
				wantSt, want = impl.StFault, 0
			case mayHave(d) == 0:
				wantSt, want = impl.StNone, 0
			case ahead == 0:
				wantSt = impl.StEnd
			}
			if st != wantSt || len(list) != want {
				t.Fatalf("ReadDevice(%v, %d) = %v, %d, not %d bytes, %d", d, n, list, st, want, wantSt)
			}
		}
	}
}

func TestReadDeviceByScript(t *testing.T) {
	d := atPlace([]int{10, 20, 30, 40, 50, 60, 70}, 0, 0, 2, 0, -1, 60, 1)
	for i, c := range []struct {
		n    int
		list []int
		st   int
	}{
		{5, []int{10, 20}, impl.StOk},
		{5, nil, impl.StNone},
		{5, nil, impl.StFault},
		{3, []int{30, 40, 50}, impl.StOk},
		{3, []int{60}, impl.StOk},
		{60, []int{70}, impl.StOk},
		{60, nil, impl.StEnd},
		{1, nil, impl.StEnd},
	} {
		next, list, st := impl.ReadDevice(d, c.n)
		if !slices.Equal(list, c.list) || st != c.st || next.Step != i+1 {
			t.Errorf("call %d: ReadDevice(%d) = %v, %v, %d", i, c.n, next, list, st)
		}
		d = next
	}
}

// A call that gives nothing by the script does so at the end, too: it is the
// script that is asked first.
func TestReadDeviceAtTheEnd(t *testing.T) {
	for _, at := range []int{0, 3, 4, 60} {
		for _, c := range []struct{ may, st int }{{0, impl.StNone}, {-1, impl.StFault}, {1, impl.StEnd}, {60, impl.StEnd}} {
			data := counted(min(at, 3))
			next, list, st := impl.ReadDevice(atPlace(data, at, 0, c.may), 60)
			if len(list) != 0 || st != c.st {
				t.Errorf("at %d, with %d: ReadDevice = %v, %d", at, c.may, list, st)
			}
			checkDevice(t, "ReadDevice", next, atPlace(data, at, 1, c.may))
		}
	}
}

func TestReadDeviceLastCall(t *testing.T) {
	d := atPlace(counted(3), 0, 999)
	next, list, st := impl.ReadDevice(d, 2)
	if !slices.Equal(list, counted(2)) || st != impl.StOk || next.Step != 1000 {
		t.Errorf("ReadDevice with the last call = %v, %v, %d", next, list, st)
	}
	if next, list, st := impl.ReadDevice(next, 2); !isZero(next) || len(list) != 0 || st != impl.StWrong {
		t.Errorf("ReadDevice without a call = %v, %v, %d", next, list, st)
	}
}

func TestReadDeviceWrong(t *testing.T) {
	good := atPlace(counted(5), 1, 0, 0, -1)
	check := func(d impl.Device, n int) {
		t.Helper()
		if next, list, st := impl.ReadDevice(d, n); !isZero(next) || len(list) != 0 || st != impl.StWrong {
			t.Errorf("ReadDevice(%v, %d) = %v, %v, %d", d, n, next, list, st)
		}
	}
	for _, n := range append([]int{0, -1, 61}, huge...) {
		check(good, n)
	}
	for _, d := range wrongDevices() {
		check(d, 1)
	}
	check(atPlace(counted(5), 1, 1000, 0), 1)
}

// Promise 5: after WriteDevice, and back where it was, RestOf begins with the
// bytes that were written, and what was ahead of them is as before.
func TestPromise5WhatIsWrittenIsThere(t *testing.T) {
	for _, d := range someDevices() {
		if d.Step == impl.MaxCalls {
			continue
		}
		for _, list := range listsWritten() {
			next, n, _ := impl.WriteDevice(d, list)
			back, ok := impl.SeekDevice(next, d.At, impl.SkStart)
			rest := impl.RestOf(back)
			if !ok || len(rest) < n || !slices.Equal(rest[:n], list[:n]) {
				t.Fatalf("WriteDevice(%v, %v) = %v, %d", d, list, next, n)
			}
			want := cloned(d)
			want.Step++
			if n > 0 {
				want.Data = writtenOver(d.Data, d.At, list[:n])
				want.At += n
			}
			checkDevice(t, "WriteDevice", next, want)
		}
	}
}

// writtenOver returns data with a list from a place on, put together from its
// parts: what is ahead of the place, filled up with 0, the list, and what is behind.
func writtenOver(data []int, at int, list []int) []int {
	out := joined(data, zeros(max(at-len(data), 0)))
	behind := out[min(at+len(list), len(out)):]
	return joined(out[:at], list, behind)
}

// Promise 6: WriteDevice writes bytes exactly if it ends with StOk, and Data
// is as long as it must be.
func TestPromise6WritesEndWellWithBytes(t *testing.T) {
	for _, d := range someDevices() {
		if d.Step == impl.MaxCalls {
			continue
		}
		for _, list := range listsWritten() {
			next, n, st := impl.WriteDevice(d, list)
			wantSt, want := impl.StOk, min(len(list), mayHave(d), impl.MaxData-d.At)
			switch {
			case mayHave(d) == -1:
				wantSt, want = impl.StFault, 0
			case mayHave(d) == 0:
				wantSt, want = impl.StNone, 0
			case d.At == impl.MaxData:
				wantSt = impl.StFull
			}
			size := len(d.Data)
			if n > 0 {
				size = max(size, d.At+n)
			}
			if st != wantSt || n != want || len(next.Data) != size {
				t.Fatalf("WriteDevice(%v, %v) = %v, %d, %d, not %d, %d", d, list, next, n, st, want, wantSt)
			}
		}
	}
}

func TestWriteDeviceByScript(t *testing.T) {
	d := atPlace([]int{1, 2, 3}, 1, 0, 1, 0, -1, 2)
	for i, c := range []struct {
		list []int
		n    int
		st   int
		data []int
		at   int
	}{
		{[]int{9, 8}, 1, impl.StOk, []int{1, 9, 3}, 2},
		{[]int{8}, 0, impl.StNone, []int{1, 9, 3}, 2},
		{[]int{8}, 0, impl.StFault, []int{1, 9, 3}, 2},
		{[]int{8, 7, 6}, 2, impl.StOk, []int{1, 9, 8, 7}, 4},
		{[]int{6, 5, 4}, 3, impl.StOk, []int{1, 9, 8, 7, 6, 5, 4}, 7},
	} {
		next, n, st := impl.WriteDevice(d, c.list)
		if n != c.n || st != c.st {
			t.Errorf("call %d: WriteDevice(%v) = %d, %d", i, c.list, n, st)
		}
		checkDevice(t, "WriteDevice", next, atPlace(c.data, c.at, i+1, 1, 0, -1, 2))
		d = next
	}
}

func TestWriteDeviceBehindTheEnd(t *testing.T) {
	next, n, st := impl.WriteDevice(atPlace([]int{1, 2}, 5, 0), []int{7, 8})
	if n != 2 || st != impl.StOk {
		t.Errorf("WriteDevice behind the end = %d, %d", n, st)
	}
	checkDevice(t, "WriteDevice", next, atPlace([]int{1, 2, 0, 0, 0, 7, 8}, 7, 1))
	for _, may := range []int{0, -1} {
		next, n, _ := impl.WriteDevice(atPlace([]int{1, 2}, 5, 0, may), []int{7})
		if n != 0 {
			t.Errorf("WriteDevice with %d = %d", may, n)
		}
		checkDevice(t, "WriteDevice of nothing behind the end", next, atPlace([]int{1, 2}, 5, 1, may))
	}
}

func TestWriteDeviceFull(t *testing.T) {
	next, n, st := impl.WriteDevice(atPlace(counted(60), 58, 0), []int{7, 8, 9})
	if n != 2 || st != impl.StOk {
		t.Errorf("WriteDevice up to MaxData = %d, %d", n, st)
	}
	checkDevice(t, "WriteDevice", next, atPlace(joined(counted(58), []int{7, 8}), 60, 1))
	for _, size := range []int{0, 59, 60} {
		for _, c := range []struct{ may, st int }{{1, impl.StFull}, {60, impl.StFull}, {0, impl.StNone}, {-1, impl.StFault}} {
			next, n, st := impl.WriteDevice(atPlace(counted(size), 60, 0, c.may), []int{9})
			if n != 0 || st != c.st {
				t.Errorf("WriteDevice at MaxData with %d = %d, %d", c.may, n, st)
			}
			checkDevice(t, "WriteDevice at MaxData", next, atPlace(counted(size), 60, 1, c.may))
		}
	}
}

func TestWriteDeviceLastCall(t *testing.T) {
	next, n, st := impl.WriteDevice(atPlace(nil, 0, 999), []int{9})
	if n != 1 || st != impl.StOk || next.Step != 1000 {
		t.Errorf("WriteDevice with the last call = %v, %d, %d", next, n, st)
	}
	if next, n, st := impl.WriteDevice(next, []int{9}); !isZero(next) || n != 0 || st != impl.StWrong {
		t.Errorf("WriteDevice without a call = %v, %d, %d", next, n, st)
	}
}

func TestWriteDeviceWrong(t *testing.T) {
	good := atPlace(counted(5), 1, 0, 0, -1)
	check := func(d impl.Device, list []int) {
		t.Helper()
		if next, n, st := impl.WriteDevice(d, list); !isZero(next) || n != 0 || st != impl.StWrong {
			t.Errorf("WriteDevice(%v, %v) = %v, %d, %d", d, list, next, n, st)
		}
	}
	for _, list := range [][]int{nil, {}, counted(61), {-1}, {256}, {1, 2, 256}, {1, 2, -1}, {huge[0]}, {huge[3]}} {
		check(good, list)
	}
	for _, d := range wrongDevices() {
		check(d, []int{1})
	}
	check(atPlace(counted(5), 60, 1000, 0), []int{1})
	check(atPlace(counted(5), 1, 1000), []int{1})
}

// Promise 7: SeekDevice to its At from the beginning on is the same, and no
// byte changes.
func TestPromise7PlacesAreWhereTheyAreTold(t *testing.T) {
	for _, d := range someDevices() {
		same, ok := impl.SeekDevice(d, d.At, impl.SkStart)
		if !ok {
			t.Fatalf("SeekDevice(%v) = false", d)
		}
		checkDevice(t, "SeekDevice to its place", same, d)
		for whence, from := range []int{impl.SkStart: 0, impl.SkNow: d.At, impl.SkEnd: len(d.Data)} {
			for off := -impl.MaxData - 1; off <= impl.MaxData+1; off++ {
				next, ok := impl.SeekDevice(d, off, whence)
				in := off >= -impl.MaxData && off <= impl.MaxData && from+off >= 0 && from+off <= impl.MaxData
				want := impl.Device{}
				if in {
					want = cloned(d)
					want.At = from + off
				}
				if ok != in || !sameDevice(next, want) {
					t.Fatalf("SeekDevice(%v, %d, %d) = %v, %v", d, off, whence, next, ok)
				}
			}
		}
	}
}

func TestSeekDevicePlaces(t *testing.T) {
	d := atPlace(counted(20), 7, 1000, -1)
	for _, c := range []struct{ off, whence, at int }{
		{0, impl.SkStart, 0}, {60, impl.SkStart, 60}, {-1, impl.SkStart, -1}, {61, impl.SkStart, -1},
		{0, impl.SkNow, 7}, {-7, impl.SkNow, 0}, {53, impl.SkNow, 60}, {-8, impl.SkNow, -1}, {54, impl.SkNow, -1},
		{0, impl.SkEnd, 20}, {-20, impl.SkEnd, 0}, {40, impl.SkEnd, 60}, {-21, impl.SkEnd, -1}, {41, impl.SkEnd, -1},
	} {
		next, ok := impl.SeekDevice(d, c.off, c.whence)
		want := impl.Device{}
		if c.at >= 0 {
			want = cloned(d)
			want.At = c.at
		}
		if ok != (c.at >= 0) {
			t.Errorf("SeekDevice(%d, %d) = %v", c.off, c.whence, ok)
		}
		checkDevice(t, "SeekDevice", next, want)
	}
}

func TestSeekDeviceWrong(t *testing.T) {
	good := atPlace(counted(60), 60, 0)
	check := func(d impl.Device, off, whence int) {
		t.Helper()
		if next, ok := impl.SeekDevice(d, off, whence); ok || !isZero(next) {
			t.Errorf("SeekDevice(%v, %d, %d) = %v, %v", d, off, whence, next, ok)
		}
	}
	for _, whence := range append([]int{-1, 3}, huge...) {
		check(good, 0, whence)
	}
	for _, whence := range whences {
		for _, off := range append([]int{-61, 61}, huge...) {
			check(good, off, whence)
		}
		for _, d := range wrongDevices() {
			check(d, 0, whence)
		}
	}
}

// Promise 8: CutDevice has n bytes, with those of before as far as they go,
// and 0 behind them.
func TestPromise8CutDevicesAreAsLongAsTold(t *testing.T) {
	for _, d := range someDevices() {
		for n := 0; n <= impl.MaxData; n++ {
			next, ok := impl.CutDevice(d, n)
			want := cloned(d)
			want.Data = joined(d.Data, zeros(impl.MaxData))[:n]
			if !ok || !sameDevice(next, want) {
				t.Fatalf("CutDevice(%v, %d) = %v, %v", d, n, next, ok)
			}
		}
	}
}

// Bytes behind the end are 0, not what spare capacity has.
func TestCutDeviceSpareCapacity(t *testing.T) {
	d := impl.Device{Data: roomy(counted(3))}
	next, _ := impl.CutDevice(d, 6)
	checkDevice(t, "CutDevice", next, atPlace(joined(counted(3), zeros(3)), 0, 0))
	d.At = 5
	next, _, _ = impl.WriteDevice(d, []int{9})
	checkDevice(t, "WriteDevice", next, atPlace(joined(counted(3), zeros(2), []int{9}), 6, 1))
}

func TestCutDeviceWrong(t *testing.T) {
	check := func(d impl.Device, n int) {
		t.Helper()
		if next, ok := impl.CutDevice(d, n); ok || !isZero(next) {
			t.Errorf("CutDevice(%v, %d) = %v, %v", d, n, next, ok)
		}
	}
	for _, n := range append([]int{-1, 61}, huge...) {
		check(atPlace(counted(5), 1, 0), n)
	}
	for _, d := range wrongDevices() {
		check(d, 0)
	}
}

// Promise 9: RestOf has as many bytes as there are from At on.
func TestPromise9WhatIsAheadIsWhatIsLeft(t *testing.T) {
	for _, d := range someDevices() {
		rest := impl.RestOf(d)
		if len(rest) != max(len(d.Data)-d.At, 0) || len(rest) > 0 && !slices.Equal(rest, d.Data[d.At:]) {
			t.Fatalf("RestOf(%v) = %v", d, rest)
		}
	}
	for _, d := range wrongDevices() {
		if rest := impl.RestOf(d); len(rest) != 0 {
			t.Errorf("RestOf(%v) = %v", d, rest)
		}
	}
	wrong := atPlace(counted(5), 1, 1001)
	if rest := impl.RestOf(wrong); len(rest) != 0 {
		t.Errorf("RestOf(%v) = %v", wrong, rest)
	}
}

// Promise 10: where IsSmooth holds ReadDevice ends with StOk or StEnd, and it
// holds then, too.
func TestPromise10SmoothDevicesAlwaysGive(t *testing.T) {
	for _, d := range someDevices() {
		smooth := d.Step >= len(d.Script) || slices.Min(d.Script[d.Step:]) >= 1
		if impl.IsSmooth(d) != smooth {
			t.Fatalf("IsSmooth(%v) = %v", d, !smooth)
		}
		if !smooth || d.Step == impl.MaxCalls {
			continue
		}
		for _, n := range countsRead {
			next, _, st := impl.ReadDevice(d, n)
			if st != impl.StOk && st != impl.StEnd || !impl.IsSmooth(next) {
				t.Fatalf("ReadDevice(%v, %d) = %v, %d", d, n, next, st)
			}
		}
	}
}

func TestIsSmooth(t *testing.T) {
	for _, c := range []struct {
		d    impl.Device
		want bool
	}{
		{atPlace(nil, 0, 0), true},
		{atPlace(nil, 0, 0, 1, 60), true},
		{atPlace(nil, 0, 0, 1, 0), false},
		{atPlace(nil, 0, 0, -1, 1), false},
		{atPlace(nil, 0, 1, -1, 1), true},
		{atPlace(nil, 0, 1, -1, 0), false},
		{atPlace(nil, 0, 2, -1, 0), true},
		{atPlace(nil, 0, 1000, 0), true},
	} {
		if got := impl.IsSmooth(c.d); got != c.want {
			t.Errorf("IsSmooth(%v) = %v", c.d, got)
		}
	}
	for _, d := range wrongDevices() {
		if impl.IsSmooth(d) {
			t.Errorf("IsSmooth(%v) = true", d)
		}
	}
}

// Promise 11: CallsToEnd of a smooth device is at most 1 more than there are
// bytes ahead, and one call less after ReadDevice.
func TestPromise11EndsComeAfterAllBytes(t *testing.T) {
	for _, d := range someDevices() {
		for _, n := range countsRead {
			calls := impl.CallsToEnd(d, n)
			if want := callsUpToEnd(d, n); calls != want {
				t.Fatalf("CallsToEnd(%v, %d) = %d, not %d", d, n, calls, want)
			}
			if calls == -1 || !impl.IsSmooth(d) {
				continue
			}
			if calls > len(impl.RestOf(d))+1 {
				t.Fatalf("CallsToEnd(%v, %d) = %d", d, n, calls)
			}
			next, _, st := impl.ReadDevice(d, n)
			if st == impl.StOk && impl.CallsToEnd(next, n) != calls-1 {
				t.Fatalf("CallsToEnd(%v, %d) = %d, and then %d", d, n, calls, impl.CallsToEnd(next, n))
			}
		}
	}
}

// callsUpToEnd counts the calls of ReadDevice up to the first one that ends
// with StEnd, up to a limit, so that a device whose Step stays is found, too.
func callsUpToEnd(d impl.Device, n int) int {
	for calls := 1; calls <= impl.MaxCalls+1; calls++ {
		next, _, st := impl.ReadDevice(d, n)
		switch st {
		case impl.StEnd:
			return calls
		case impl.StWrong:
			return -1
		}
		d = next
	}
	return -1
}

func TestCallsToEnd(t *testing.T) {
	for _, c := range []struct {
		d    impl.Device
		n    int
		want int
	}{
		{atPlace(nil, 0, 0), 1, 1},
		{atPlace(counted(5), 5, 0), 1, 1},
		{atPlace(counted(5), 60, 0), 1, 1},
		{atPlace(counted(5), 0, 0), 60, 2},
		{atPlace(counted(5), 0, 0), 2, 4},
		{atPlace(counted(60), 0, 0), 1, 61},
		{atPlace(counted(5), 0, 0, 2, 0, -1, 1), 3, 6},
		{atPlace(nil, 0, 0, 0, -1, 0), 1, 4},
		{atPlace(counted(5), 0, 0, zeros(12)...), 5, 14},
		{atPlace(nil, 0, 999), 1, 1},
		{atPlace(nil, 0, 1000), 1, -1},
		{atPlace(counted(5), 0, 998), 5, 2},
		{atPlace(counted(5), 0, 999), 5, -1},
		{atPlace(counted(60), 0, 939), 1, 61},
		{atPlace(counted(60), 0, 940), 1, -1},
		{atPlace(counted(5), 0, 0), 0, -1},
		{atPlace(counted(5), 0, 0), -1, -1},
		{atPlace(counted(5), 0, 0), 61, -1},
		{atPlace(nil, 0, 0), 0, -1},
		{atPlace(nil, 0, 0), -1, -1},
		{atPlace(nil, 0, 0), 61, -1},
	} {
		if got := impl.CallsToEnd(c.d, c.n); got != c.want {
			t.Errorf("CallsToEnd(%v, %d) = %d, not %d", c.d, c.n, got, c.want)
		}
	}
	for _, n := range huge {
		if got := impl.CallsToEnd(atPlace(nil, 0, 0), n); got != -1 {
			t.Errorf("CallsToEnd of %d = %d", n, got)
		}
	}
	for _, d := range wrongDevices() {
		if got := impl.CallsToEnd(d, 1); got != -1 {
			t.Errorf("CallsToEnd(%v) = %d", d, got)
		}
	}
}

// No function changes its arguments, nor what stands behind them.
func TestDeviceArgumentsStay(t *testing.T) {
	for _, at := range []int{0, 2, 3, 5} {
		data, script, list := roomy(counted(3)), roomy([]int{2, 5, 1}), roomy([]int{9, 8, 7})
		d := impl.Device{Data: data, At: at, Script: script, Step: 1}
		impl.ValidDevice(d)
		impl.NewDevice(data, script)
		impl.ReadDevice(d, 2)
		impl.WriteDevice(d, list)
		impl.SeekDevice(d, 1, impl.SkEnd)
		impl.CutDevice(d, 1)
		impl.CutDevice(d, 8)
		impl.RestOf(d)
		impl.IsSmooth(d)
		impl.CallsToEnd(d, 1)
		if !intact(data, counted(3)) || !intact(script, []int{2, 5, 1}) || !intact(list, []int{9, 8, 7}) {
			t.Errorf("at %d: an argument was changed", at)
		}
	}
}

// No result shares memory with an argument or with another slice of it.
func TestDeviceResultsAreNew(t *testing.T) {
	made := []struct {
		name string
		call func(d impl.Device, list []int) (impl.Device, []int)
	}{
		{"NewDevice", func(d impl.Device, list []int) (impl.Device, []int) {
			next, _ := impl.NewDevice(d.Data, d.Script)
			return next, nil
		}},
		{"ReadDevice", func(d impl.Device, list []int) (impl.Device, []int) {
			next, list, _ := impl.ReadDevice(d, 2)
			return next, list
		}},
		{"WriteDevice", func(d impl.Device, list []int) (impl.Device, []int) {
			next, _, _ := impl.WriteDevice(d, list)
			return next, nil
		}},
		{"SeekDevice", func(d impl.Device, list []int) (impl.Device, []int) {
			next, _ := impl.SeekDevice(d, 0, impl.SkEnd)
			return next, nil
		}},
		{"CutDevice", func(d impl.Device, list []int) (impl.Device, []int) {
			next, _ := impl.CutDevice(d, 3)
			return next, nil
		}},
		{"RestOf", func(d impl.Device, list []int) (impl.Device, []int) {
			return impl.Device{}, impl.RestOf(d)
		}},
	}
	for _, m := range made {
		for _, script := range [][]int{{2, 5}, {2, 0}, {2, -1}} {
			arg := impl.Device{Data: roomy(counted(5)), At: 1, Script: roomy(script), Step: 1}
			list := roomy([]int{9, 8})
			next, got := m.call(arg, list)
			checkApart(t, m.name, arg.Data, arg.Script, list, next.Data, next.Script, got)
		}
	}
}
