package impl

// MaxData is the largest number of bytes of a device.
const MaxData = 60

// MaxScript is the largest number of calls of a script.
const MaxScript = 12

// MaxCalls is the largest number of calls of a device.
const MaxCalls = 1000

// StOk is how a call ends: well.
const StOk = 0

// StEnd is how a call ends: there are no more bytes.
const StEnd = 1

// StNone is how a call ends: there are no bytes now.
const StNone = 2

// StFault is how a call ends: with a fault.
const StFault = 3

// StFull is how a call ends: there is no room.
const StFull = 4

// StWrong is how a call ends: the arguments are wrong.
const StWrong = 5

// SkStart is where a seek begins: at the beginning.
const SkStart = 0

// SkNow is where a seek begins: where it is.
const SkNow = 1

// SkEnd is where a seek begins: at the end.
const SkEnd = 2

// Device is a device: its bytes, its place, its script, and its number of calls.
type Device struct {
	Data   []int
	At     int
	Script []int
	Step   int
}

// stream is what is read and written by calls. Each call changes it, and may
// have fewer bytes than asked for, so whoever wants more has to call again.
type stream interface {
	read(n int) ([]int, int)
	write(list []int) (int, int)
}

// ValidDevice reports whether a device is valid.
func ValidDevice(d Device) bool {
	return areBytes(d.Data) &&
		len(d.Script) <= MaxScript && allIn(d.Script, -1, MaxData) &&
		isIn(d.At, 0, MaxData) && isIn(d.Step, 0, MaxCalls)
}

// NewDevice returns a device with bytes and a script.
func NewDevice(data []int, script []int) (Device, bool) {
	d := Device{Data: data, Script: script}
	if !ValidDevice(d) {
		return Device{}, false
	}
	return copyDevice(d), true
}

// ReadDevice returns a device after a call that reads.
func ReadDevice(d Device, n int) (Device, []int, int) {
	if !canCall(d) || !isIn(n, 1, MaxData) {
		return Device{}, nil, StWrong
	}
	next := copyDevice(d)
	var s stream = &next
	list, st := s.read(n)
	return next, list, st
}

// WriteDevice returns a device after a call that writes.
func WriteDevice(d Device, list []int) (Device, int, int) {
	if !canCall(d) || len(list) == 0 || !areBytes(list) {
		return Device{}, 0, StWrong
	}
	next := copyDevice(d)
	var s stream = &next
	n, st := s.write(list)
	return next, n, st
}

// SeekDevice returns a device at another place.
func SeekDevice(d Device, off int, whence int) (Device, bool) {
	if !ValidDevice(d) {
		return Device{}, false
	}
	at, ok := placeFrom(off, whence, d.At, len(d.Data))
	if !ok {
		return Device{}, false
	}
	next := copyDevice(d)
	next.At = at
	return next, true
}

// CutDevice returns a device with another number of bytes.
func CutDevice(d Device, n int) (Device, bool) {
	if !ValidDevice(d) || !isIn(n, 0, MaxData) {
		return Device{}, false
	}
	next := copyDevice(d)
	next.cut(n)
	return next, true
}

// RestOf returns the bytes of a device from its place on.
func RestOf(d Device) []int {
	// A place behind the end is valid, but no index of Data.
	if !ValidDevice(d) || d.At >= len(d.Data) {
		return nil
	}
	return copyList(d.Data[d.At:])
}

// IsSmooth reports whether a device has no call to come that gives nothing.
func IsSmooth(d Device) bool {
	if !ValidDevice(d) {
		return false
	}
	for i := d.Step; i < len(d.Script); i++ {
		if d.Script[i] < 1 {
			return false
		}
	}
	return true
}

// CallsToEnd returns how many calls a device needs to its end.
func CallsToEnd(d Device, n int) int {
	if !ValidDevice(d) || !isIn(n, 1, MaxData) {
		return -1
	}
	next := copyDevice(d)
	return callsToEnd(&next, n, MaxCalls-d.Step)
}

// callsToEnd returns how many calls a stream needs to its end, -1 if more than most.
func callsToEnd(s stream, n int, most int) int {
	for calls := 1; calls <= most; calls++ {
		if _, st := s.read(n); st == StEnd {
			return calls
		}
	}
	return -1
}

// canCall reports whether a device is valid and has a call left.
func canCall(d Device) bool {
	return ValidDevice(d) && hasCalls(d, 1)
}

// hasCalls reports whether a device has n calls left.
func hasCalls(d Device, n int) bool {
	return d.Step <= MaxCalls-n
}

// read makes a call that reads at most n bytes, and returns them and how it ended.
func (d *Device) read(n int) ([]int, int) {
	may, st := d.mayHave(d.Step)
	d.Step++
	if st != StOk {
		return nil, st
	}
	rest := RestOf(*d)
	if len(rest) == 0 {
		return nil, StEnd
	}
	list := copyList(rest[:min(n, may, len(rest))])
	d.At += len(list)
	return list, StOk
}

// write makes a call that writes a list, and returns how many of its bytes are written and how it ended.
func (d *Device) write(list []int) (int, int) {
	n, st := d.writeAs(d.Step, list)
	d.Step++
	return n, st
}

// writeAs writes a list as the call with a number does. It leaves Step alone,
// so that whoever makes several calls can count them together.
func (d *Device) writeAs(call int, list []int) (int, int) {
	may, st := d.mayHave(call)
	if st != StOk {
		return 0, st
	}
	if d.At == MaxData {
		return 0, StFull
	}
	data, n := writtenAt(d.Data, d.At, list[:min(len(list), may)])
	d.Data = data
	d.At += n
	return n, StOk
}

// cut leaves n bytes, of which those that there were not are 0.
func (d *Device) cut(n int) {
	data := make([]int, n)
	copy(data, d.Data)
	d.Data = data
}

// mayHave returns how many bytes the call with a number may have, and how it ends if it may have none.
func (d *Device) mayHave(call int) (int, int) {
	may := MaxData
	if call < len(d.Script) {
		may = d.Script[call]
	}
	switch may {
	case -1:
		return 0, StFault
	case 0:
		return 0, StNone
	}
	return may, StOk
}

// copyDevice returns a device that shares no memory with another one.
func copyDevice(d Device) Device {
	d.Data = copyList(d.Data)
	d.Script = copyList(d.Script)
	return d
}

// copyList returns the same numbers in memory of their own.
func copyList(list []int) []int {
	if len(list) == 0 {
		return nil
	}
	out := make([]int, len(list))
	copy(out, list)
	return out
}

// writtenAt returns data with a list from a place on, as far as there is room,
// and how many bytes of the list that are. Bytes between the end and the place are 0.
func writtenAt(data []int, at int, list []int) ([]int, int) {
	n := min(len(list), MaxData-at)
	if n == 0 {
		// Where nothing is written, no gap is filled either.
		return copyList(data), 0
	}
	out := make([]int, max(len(data), at+n))
	copy(out, data)
	copy(out[at:], list[:n])
	return out, n
}

// placeFrom returns the place at off bytes from where whence tells, and whether there is one.
func placeFrom(off int, whence int, now int, end int) (int, bool) {
	if !isSeek(off, whence) {
		return 0, false
	}
	switch whence {
	case SkNow:
		off += now
	case SkEnd:
		off += end
	}
	if !isIn(off, 0, MaxData) {
		return 0, false
	}
	return off, true
}

// isSeek reports whether a seek may be asked for so, whether or not there is such a place.
func isSeek(off int, whence int) bool {
	return isIn(off, -MaxData, MaxData) && isIn(whence, SkStart, SkEnd)
}

// areBytes reports whether a list has no more than a device's bytes, and no other numbers.
func areBytes(list []int) bool {
	return len(list) <= MaxData && allIn(list, 0, 255)
}

// allIn reports whether each number is in least..most.
func allIn(list []int, least int, most int) bool {
	for _, n := range list {
		if !isIn(n, least, most) {
			return false
		}
	}
	return true
}

// isIn reports whether a number is in least..most.
func isIn(n int, least int, most int) bool {
	return least <= n && n <= most
}
