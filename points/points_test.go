package points

import (
	"testing"

	"vigil/api"
	"vigil/logline"
)

func at(stamp api.Stamp) logline.Line {
	return logline.Line{Stamp: stamp}
}

func TestTime(t *testing.T) {
	for _, c := range []struct {
		last, next api.Stamp
		want       api.Errno
	}{
		{5, 5, api.OK}, {5, 6, api.OK}, {5, 4, api.ErrBack}, {5, 32772, api.OK}, {5, 32773, api.ErrBack}, {5, 65535, api.ErrBack}, {5, 0, api.ErrBack},
		{0, 0, api.OK}, {0, 32767, api.OK}, {0, 32768, api.ErrBack}, {0, 65535, api.ErrBack},
		{65535, 65535, api.OK}, {65535, 0, api.OK}, {65535, 32766, api.OK}, {65535, 32767, api.ErrBack}, {65535, 65534, api.ErrBack},
		{32768, 0, api.ErrBack}, {32769, 0, api.OK}, {32768, 65535, api.OK}, {32767, 65535, api.ErrBack},
	} {
		var log Log
		if e := log.Add(at(c.last)); e != api.OK || log.Count() != 1 {
			t.Errorf("P5: the first point %d = %d, %d points", c.last, e, log.Count())
		}
		want := 1
		if c.want == api.OK {
			want = 2
		}
		if e := log.Add(at(c.next)); e != c.want || log.Count() != want {
			t.Errorf("P5: %d behind %d = %d, %d points, want %d, %d", c.next, c.last, e, log.Count(), c.want, want)
		}
	}
}

// Each point is measured from the one ahead of it that has joined.
func TestLastPoint(t *testing.T) {
	var log Log
	for i, c := range []struct {
		stamp api.Stamp
		want  api.Errno
	}{{40000, api.OK}, {39999, api.ErrBack}, {7231, api.OK}, {7230, api.ErrBack}, {40000, api.ErrBack}, {39998, api.OK}, {39999, api.OK}} {
		if e := log.Add(at(c.stamp)); e != c.want {
			t.Errorf("P5: line %d, %d = %d, want %d", i, c.stamp, e, c.want)
		}
	}
}

func TestBound(t *testing.T) {
	var log Log
	for i := range 40 {
		if e := log.Add(at(9)); e != api.OK || log.Count() != i+1 {
			t.Errorf("P5: point %d = %d, %d points", i, e, log.Count())
		}
	}
	for stamp, want := range map[api.Stamp]api.Errno{9: api.ErrFull, 10: api.ErrFull, 8: api.ErrBack} {
		if e := log.Add(at(stamp)); e != want || log.Count() != 40 {
			t.Errorf("P5: %d behind 40 points = %d, %d points, want %d", stamp, e, log.Count(), want)
		}
	}
}

func TestOwnHappenings(t *testing.T) {
	given := []logline.Happening{{Digits: [2]int{1, 2}, Count: 2}, {Digits: [2]int{3, 0}, Count: 1}}
	want := given[0]
	var log Log
	log.Add(logline.Line{Stamp: 3, Happenings: given})
	given[0].Count = 0
	kept := log.At(0)
	if kept.Stamp != 3 || len(kept.Happenings) != 2 || kept.Happenings[0] != want || kept.Happenings[1] != given[1] {
		t.Errorf("P5: the point is %+v", kept)
	}
}

func logOf(t *testing.T, stamps ...api.Stamp) *Log {
	t.Helper()
	log := &Log{}
	for _, stamp := range stamps {
		if e := log.Add(at(stamp)); e != api.OK {
			t.Fatalf("P5: %d of %v = %d", stamp, stamps, e)
		}
	}
	return log
}

// The time between two points is the sum of the times that lie between them, so it may be more than a round.
func TestTimeBetween(t *testing.T) {
	stamps := []api.Stamp{65530, 4, 4, 32771, 65535, 0, 65530 - 32768 + 1, 65529, 65530}
	sums := []int{0, 10, 10, 32777, 65541, 65542, 98305, 131071, 131072}
	log := logOf(t, stamps...)
	for i := range stamps {
		if got := log.At(i).Stamp; got != stamps[i] {
			t.Errorf("P6: point %d has stamp %d, want %d", i, got, stamps[i])
		}
		for j := i; j < len(stamps); j++ {
			want := sums[j] - sums[i]
			if log.Time(i, j) != want || log.Time(j, i) != want {
				t.Errorf("P6: from %d to %d: %d, back %d, want %d", i, j, log.Time(i, j), log.Time(j, i), want)
			}
		}
	}
	longest := make([]api.Stamp, 40)
	for i := range longest {
		longest[i] = api.Stamp(uint16(7 + i*32767))
	}
	if got := logOf(t, longest...).Time(0, 39); got != 39*32767 {
		t.Errorf("P6: the longest time is %d", got)
	}
}

// A point that is refused leaves no time behind.
func TestTimeRefused(t *testing.T) {
	log := logOf(t, 5, 8)
	if e := log.Add(at(7)); e != api.ErrBack {
		t.Errorf("P5: 7 behind 8 = %d", e)
	}
	log.Add(at(9))
	if got := log.Time(0, 2); got != 4 {
		t.Errorf("P6: from 0 to 2: %d", got)
	}
}

func TestNoSuchPoint(t *testing.T) {
	log := logOf(t, 5, 9)
	for _, i := range []int{-1, 2, 40, -1 << 62, 1 << 62} {
		if line := log.At(i); line.Stamp != 0 || line.Happenings != nil || log.Time(0, i) != 0 || log.Time(i, 1) != 0 || log.Time(i, i) != 0 {
			t.Errorf("P1: point %d: %+v, %d, %d", i, line, log.Time(0, i), log.Time(i, 1))
		}
	}
}

func TestSettled(t *testing.T) {
	var empty Log
	log := logOf(t, 65534, 65534, 0, 3, 3)
	for reach, want := range map[int]int{api.None: 5, 0: 3, 2: 3, 3: 2, 4: 2, 5: 0, 6: 0, 6993: 0} {
		if got := log.Settled(reach); got != want {
			t.Errorf("P6: with reach %d %d are settled, want %d", reach, got, want)
		}
		if got := empty.Settled(reach); got != 0 {
			t.Errorf("P6: with reach %d %d of no points are settled", reach, got)
		}
	}
	// A round later the stamps are the same, the time is not.
	if got := logOf(t, 1, 30000, 60000, 1).Settled(999); got != 3 {
		t.Errorf("P6: %d of 4 points are settled, want 3", got)
	}
}
