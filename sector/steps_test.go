package sector_test

import (
	"math"
	"strings"
	"testing"

	"tambour/api"
)

// P12.1, R1, R3: the order of the errors, and what a refused call leaves.
func TestErrors(t *testing.T) {
	for _, script := range []string{
		"~0 3a=20 off 3?=20 -1?=20 9?=20 -1a=20 9a=20 3a=20 .=20 off",
		"~0 .=20 off 9a=20 9?=20 !",
		"~0 -1a=1 on 9a=1 on 3? 9?=1 on +0 3a=20 off",
		"~1 -1a=1 9a=1 9?=1 -1?=1 3a 3?a on 9a=1 on 4a=20 off",
		"~1 9a=1 9a=1 . on 9a=1 on .=20 off",
		"3a 9b=1 -1c=1 3?a +1 . 9b=1 3?a +0",
	} {
		play(t, script)
	}
	long := strings.Repeat("x", 513)
	d := play(t, "3a ~1")
	for range 3 {
		if e := d.Write(3, long); numberOf(e) != api.ErrArg || d.Off() || d.Pending() != 1 {
			t.Error(e, d.Off(), d.Pending())
		}
	}
	for _, want := range []api.Errno{api.OK, api.ErrOff} {
		if e := d.Write(4, long[1:]); numberOf(e) != want {
			t.Error(e, want)
		}
	}
	for _, i := range []int{-1, 3, 9, math.MaxInt} {
		if e := d.Write(i, long); numberOf(e) != api.ErrOff {
			t.Error(e)
		}
	}
	d = play(t, "~0")
	if e := d.Write(3, long); numberOf(e) != api.ErrArg || d.Off() {
		t.Error(e, d.Off())
	}
}

// P12.1: Write and Flush are a step each, all else is none.
func TestSteps(t *testing.T) {
	for _, script := range []string{
		"~0 on 3? +0 on 3a=20 off",
		"~0 on .=20 off",
		"~1 on 3a on 3?a +1 on 4b=20 off +1",
		"~1 3a .=20 off +1",
		"~1 . on 3a=20 off +0",
		"~1 . .=20 off",
		"~2 3a . on 3?a 3b=20 off +0",
		"~2 . 3a .=20 off +1",
		"~3 3a 3b 3c on +3 3d=20 off +3",
		"~3 3a . 4b .=20 off +1",
		"~5 3a 4b . 5c . 3?a 4?b 5?c on .=20 off +0",
		"~1 3? 4? 5? 3? +0 on 3? on 3a 3?a 3?a 3b=20 off",
		"~0 3? 3? 3? on -1?=1 on +0 on",
	} {
		play(t, script)
	}
	d := play(t, "~7")
	for i := range 7 {
		if e := d.Write(i, "x"); e != nil || d.Off() || d.Pending() != i+1 {
			t.Error(i, e, d.Off(), d.Pending())
		}
	}
	if e := d.Flush(); numberOf(e) != api.ErrOff || !d.Off() || d.Pending() != 7 {
		t.Error(e, d.Off(), d.Pending())
	}
}

// P12.1: without a limit, and with one that isn't reached, a disk goes on.
func TestNoLimit(t *testing.T) {
	for _, n := range []int{-1, -2, -3, -1000, -1 << 32, -1<<32 + 1, math.MinInt, math.MinInt + 1, 1 << 31, 1 << 32, 1<<32 + 1, 1 << 62, math.MaxInt} {
		d := made(t, 3)
		d.Fuel(n)
		for i := range 1000 {
			if e := d.Write(i%3, "x"); e != nil || d.Off() {
				t.Fatalf("Fuel(%d), write %d: %v", n, i, e)
			}
		}
		if e := d.Flush(); e != nil || d.Off() || d.Pending() != 0 {
			t.Errorf("Fuel(%d): Flush: %v", n, e)
		}
	}
	d := made(t, 3)
	for i := range 1000 {
		for _, e := range []error{d.Write(i%3, "x"), d.Flush()} {
			if e != nil || d.Off() {
				t.Fatalf("no Fuel, %d: %v", i, e)
			}
		}
	}
	d.Fuel(1000)
	for i := range 1000 {
		if e := d.Write(i%3, "x"); e != nil {
			t.Fatalf("Fuel(1000), write %d: %v", i, e)
		}
	}
	if e := d.Write(0, "x"); numberOf(e) != api.ErrOff || d.Pending() != 1000 {
		t.Error(e, d.Pending())
	}
}

// P12.1: Fuel given anew, ahead of its end, at it, and behind it.
func TestFuelAnew(t *testing.T) {
	for _, script := range []string{
		"~5 3a 3b ~2 3c 3d on 3e=20 off +4",
		"~5 ~1 3a 3b=20 off",
		"~1 ~5 3a 3b 3c 3d 3e 3f=20 off",
		"~2 ~2 3a 3b 3c=20 off",
		"~1 3a ~1 3b on 3c=20 off",
		"~1 3a ~0 on 3b=20 off",
		"~5 ~0 on 3a=20 off",
		"~0 ~1 on 3a 3b=20 off",
		"~0 ~-1 on 3a 3b 3c . on",
		"~1 3a ~-1 3b 3c 3d . on 3?d",
		"~-1 3a 3b ~1 3c 3d=20 off",
		"~-5 ~0 3a=20 off",
		"~-5 ~2 3a . 3b=20 off",
		"~-1 ~-1 3a . on",
	} {
		play(t, script)
	}
}

// P12.1: a disk that is off answers ErrOff till it falls, whatever fuel it is given.
func TestOff(t *testing.T) {
	for _, script := range []string{
		"3a . 3b ~0 3c=20 off 3?=20 3d=20 .=20 off +1",
		"~0 3a=20 ~1 off 3a=20 .=20 3?=20 off",
		"~0 3a=20 ~-1 off 3a=20 .=20 3?=20 off +0",
		"~0 .=20 ~5 off .=20 3a=20 off +0",
		"~0 3a=20 ~0 off ! on 3a 3b . on",
		"~0 3a=20 ~1 ! on 3a 3b 3c . 3?c on",
		"~0 3a=20 ~-1 ! on 3a 3b . on",
		"3a ~0 .=20 ~1 .=20 off +1 ! +0 3?",
		"3a 3b ~0 4c=20 ~9 4c=20 +2 off !11 on 3?b 4? +0",
	} {
		play(t, script)
	}
}

// P12.1: a Write that goes off isn't pending; a Flush that goes off leaves all that is pending as it is.
func TestGoneOff(t *testing.T) {
	for _, script := range []string{
		"3a ~0 3b=20 +1 !11 3?a +0",
		"3a . ~0 3b=20 +0 !1 3?a",
		"~1 3a 4b=20 +1 !11 3?a 4?",
		"3a 4b ~0 .=20 off +2 !11 on 3?a 4?b +0",
		"3a 4b ~0 .=20 +2 ! 3? 4? +0",
		"3a 4b ~0 .=20 .=20 +2 !01 3? 4?b",
		"3a . 3b 4c ~0 .=20 +2 !10 3?b 4?",
		"3a . 3b 4c ~0 .=20 +2 ! 3?a 4?",
		"3a 4b ~1 . ~0 .=20 +0 !00 3?a 4?b",
		"~2 3a . .=20 +0 ! 3?a",
	} {
		play(t, script)
	}
}
