package tests

import (
	"slices"
	"testing"

	"loop.example/streamlayers/impl"
)

// huge are the numbers with which a sum or a difference may wrap around.
var huge = []int{-1 << 63, -1<<63 + 1, 1<<63 - 2, 1<<63 - 1}

// whences are the places from which a seek may be told.
var whences = []int{impl.SkStart, impl.SkNow, impl.SkEnd}

// counted returns n bytes that differ from their neighbours.
func counted(n int) []int {
	list := make([]int, n)
	for i := range list {
		list[i] = (i*7 + 1) % 256
	}
	return list
}

// zeros returns n bytes 0.
func zeros(n int) []int {
	return make([]int, n)
}

// joined returns lists one behind the other.
func joined(lists ...[]int) []int {
	return slices.Concat(lists...)
}

// sameDevice reports whether two devices are the same, where nil is empty.
func sameDevice(a, b impl.Device) bool {
	return slices.Equal(a.Data, b.Data) && a.At == b.At && slices.Equal(a.Script, b.Script) && a.Step == b.Step
}

// isZero reports whether a device is the zero value.
func isZero(d impl.Device) bool {
	return len(d.Data) == 0 && d.At == 0 && len(d.Script) == 0 && d.Step == 0
}

// cloned returns a device in memory of its own.
func cloned(d impl.Device) impl.Device {
	d.Data = slices.Clone(d.Data)
	d.Script = slices.Clone(d.Script)
	return d
}

// roomy returns a list with spare capacity, in which -7 stands.
func roomy(list []int) []int {
	out := make([]int, len(list)+8)
	copy(out, list)
	for i := len(list); i < len(out); i++ {
		out[i] = -7
	}
	return out[:len(list)]
}

// checkApart checks that no two slices share memory, spare capacity included:
// each is overwritten with a number of its own, and the others must not change.
func checkApart(t *testing.T, what string, lists ...[]int) {
	t.Helper()
	for i := range lists {
		var before [][]int
		for _, list := range lists {
			before = append(before, slices.Clone(list[:cap(list)]))
		}
		for k := range lists[i][:cap(lists[i])] {
			lists[i][:cap(lists[i])][k] = -100 - i
		}
		for j, list := range lists {
			if j != i && !slices.Equal(list[:cap(list)], before[j]) {
				t.Errorf("%s: slice %d changed with slice %d", what, j, i)
			}
		}
	}
}

// intact reports whether a roomy list still has its numbers, and -7 behind them.
func intact(list, before []int) bool {
	if !slices.Equal(list, before) {
		return false
	}
	for _, n := range list[len(list):cap(list)] {
		if n != -7 {
			return false
		}
	}
	return true
}

// atPlace returns the device with the bytes, the script, the place and the step.
func atPlace(data []int, at int, step int, script ...int) impl.Device {
	return impl.Device{Data: data, At: at, Script: script, Step: step}
}

// someDevices returns valid devices: empty, full and in between, with places
// in, at and behind the end, and with calls that give nothing.
func someDevices() []impl.Device {
	scripts := [][]int{nil, {0}, {-1}, {1}, {60}, {2, 0, -1, 1}, {-1, 0, 0, 3, 60}, {1, 1, 1, 1, 1, 1, 1, 1, 1, 1, 1, 0}, {5, 4, 3, 2, 1, 2, 3, 4, 5, 60, 59, 58}}
	var out []impl.Device
	for _, n := range []int{0, 1, 2, 5, 59, 60} {
		for _, at := range []int{0, 1, 2, 5, 30, 58, 59, 60} {
			for _, script := range scripts {
				for _, step := range []int{0, 1, 3, 11, 12, 13, 998, 999, 1000} {
					out = append(out, atPlace(counted(n), at, step, script...))
				}
			}
		}
	}
	return out
}

// wrongDevices returns devices each of which is not valid for one reason.
func wrongDevices() []impl.Device {
	out := []impl.Device{
		atPlace(counted(61), 0, 0),
		atPlace([]int{-1}, 0, 0),
		atPlace([]int{256}, 0, 0),
		atPlace([]int{1, 2, 256}, 0, 0),
		atPlace(nil, 0, 0, zeros(13)...),
		atPlace(nil, 0, 0, -2),
		atPlace(nil, 0, 0, 61),
		atPlace(nil, 0, 0, 1, 2, 61),
		atPlace(nil, -1, 0),
		atPlace(nil, 61, 0),
		atPlace(nil, 0, -1),
		atPlace(nil, 0, 1001),
		// Numbers that calls have passed must be right all the same.
		atPlace(nil, 0, 5, 61),
	}
	for _, n := range huge {
		out = append(out, atPlace([]int{n}, 0, 0), atPlace(nil, n, 0), atPlace(nil, 0, n), atPlace(nil, 0, 0, n))
	}
	return out
}

// TestHelp checks that the devices of the other tests are what they are taken for.
func TestHelp(t *testing.T) {
	for _, d := range someDevices() {
		if !impl.ValidDevice(d) {
			t.Fatalf("ValidDevice(%v) = false", d)
		}
	}
	for _, d := range wrongDevices() {
		if impl.ValidDevice(d) {
			t.Errorf("ValidDevice(%v) = true", d)
		}
	}
}
