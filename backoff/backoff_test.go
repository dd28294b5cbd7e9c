package backoff

import (
	"math"
	"math/rand"
	"testing"

	"courier/api"
)

// delays are the delays behind the attempts, as the chapter's examples tell them.
var delays = []int64{4, 8, 16, 32, 32, 32}

// times are how long behind the first attempt each is made, and at last when all
// has been tried: the delays summed by hand.
var times = []int64{0, 4, 12, 28, 60, 92, 124}

// outside are numbers that are no attempt's, nor that behind the last one.
var outside = []int{-1, -2, -6, -32, -63, -64, -65, math.MinInt32, math.MinInt + 1, math.MinInt,
	api.MaxTries + 1, api.MaxTries + 2, 31, 32, 33, 61, 62, 63, 64, 65, 127, 128, 256, math.MaxInt32, math.MaxInt - 1, math.MaxInt}

// toldDelay answers the delay behind attempt k by the chapter's words.
func toldDelay(k int) int64 {
	if k < 0 || k >= api.MaxTries {
		return 0
	}
	return int64(math.Min(api.FirstDelay*math.Pow(2, float64(k)), api.MostDelay))
}

// toldAttempts answers how many attempts are made, as one would who waits for each.
func toldAttempts(ticks int64) int {
	made := 0
	for ticks >= 0 && made < api.MaxTries {
		ticks -= toldDelay(made)
		made++
	}
	return made
}

// P16.1: the limits are such as the examples here are counted by.
func TestLimits(t *testing.T) {
	if len(delays) != api.MaxTries || delays[0] != api.FirstDelay || delays[api.MaxTries-1] != api.MostDelay {
		t.Error(api.MaxTries, api.FirstDelay, api.MostDelay)
	}
}

// P16.1: the delay behind each attempt doubles, up to the most.
func TestDelay(t *testing.T) {
	for k, want := range delays {
		if got := Delay(k); got != want || got != toldDelay(k) {
			t.Error(k, got, want)
		}
	}
}

// P16.1: behind what is no attempt there is no delay.
func TestDelayOutside(t *testing.T) {
	for _, k := range append([]int{api.MaxTries}, outside...) {
		if got := Delay(k); got != 0 {
			t.Error(k, got)
		}
	}
}

// P16.1: when each attempt is made, and when all has been tried.
func TestWhen(t *testing.T) {
	for k, want := range times {
		if got := When(k); got != want {
			t.Error(k, got, want)
		}
	}
}

// P16.1: an attempt is made a delay behind the one ahead of it; the first one at once.
func TestWhenSums(t *testing.T) {
	if When(0) != 0 {
		t.Error(When(0))
	}
	for k := range api.MaxTries {
		if When(k+1)-When(k) != Delay(k) {
			t.Error(k, When(k), When(k+1), Delay(k))
		}
	}
}

// P16.1: beyond when all has been tried there is no time.
func TestWhenOutside(t *testing.T) {
	for _, k := range outside {
		if got := When(k); got != -1 {
			t.Error(k, got)
		}
	}
}

// P16.1: the chapter's examples.
func TestExamples(t *testing.T) {
	if When(2) != 12 || Attempts(11) != 2 || Attempts(12) != 3 {
		t.Error(When(2), Attempts(11), Attempts(12))
	}
}

// P16.1: an attempt counts from its time on, and not ahead of it.
func TestAttemptsAtTheirTimes(t *testing.T) {
	for k, when := range times[:api.MaxTries] {
		if Attempts(when-1) != k || Attempts(when) != k+1 || Attempts(when+1) != k+1 {
			t.Error(when, Attempts(when-1), Attempts(when), Attempts(when+1))
		}
	}
}

// P16.1: when all has been tried no attempt is made more, however long it is.
func TestAttemptsBeyondAll(t *testing.T) {
	for _, ticks := range []int64{93, 123, 124, 125, 155, 156, 157, 1000, math.MaxUint16 + 1, math.MaxInt32, math.MaxUint32 + 1, api.MaxTime, 1 << 60, math.MaxInt64 - 1, math.MaxInt64} {
		if got := Attempts(ticks); got != api.MaxTries {
			t.Error(ticks, got)
		}
	}
}

// P16.1: ahead of the first attempt none is made.
func TestAttemptsBelow(t *testing.T) {
	for _, ticks := range []int64{-1, -2, -4, -12, -124, math.MinInt32, -math.MaxUint32 - 1, -api.MaxTime, -1 << 60, math.MinInt64 + 1, math.MinInt64} {
		if got := Attempts(ticks); got != 0 {
			t.Error(ticks, got)
		}
	}
}

// P16.1: at every tick about the attempts as many are made as by waiting for each.
func TestAttemptsEach(t *testing.T) {
	for ticks := int64(-200); ticks <= 400; ticks++ {
		if got, want := Attempts(ticks), toldAttempts(ticks); got != want {
			t.Error(ticks, got, want)
		}
	}
}

// P16.1, R1: any numbers, whether there are such attempts or not.
func TestAny(t *testing.T) {
	r := rand.New(rand.NewSource(16))
	for range 20000 {
		bits := r.Uint64()
		check(t, int64(bits)>>r.Intn(64))
	}
}

// R2: what was asked ahead doesn't count.
func TestSameAgain(t *testing.T) {
	for range 3 {
		for k := api.MaxTries + 1; k >= -1; k-- {
			if Delay(k) != toldDelay(k) || k >= 0 && k <= api.MaxTries && When(k) != times[k] {
				t.Error(k, Delay(k), When(k))
			}
			check(t, int64(k))
		}
	}
}

// check asks all calls at a number, and holds them against the chapter's words.
func check(t *testing.T, n int64) {
	t.Helper()
	k := int(n)
	if got, want := Delay(k), toldDelay(k); got != want {
		t.Error(k, got, want)
	}
	want := int64(-1)
	if k >= 0 && k < len(times) {
		want = times[k]
	}
	if got := When(k); got != want {
		t.Error(k, got, want)
	}
	if got, want := Attempts(n), toldAttempts(n); got != want {
		t.Error(n, got, want)
	}
}

// P16.1, R1: whatever number is asked for.
func FuzzAll(f *testing.F) {
	for _, n := range []int64{math.MinInt64, -1, 0, 3, 4, 5, 6, 7, 91, 92, 124, math.MaxInt64} {
		f.Add(n)
	}
	f.Fuzz(func(t *testing.T, n int64) { check(t, n) })
}
