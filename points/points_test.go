package points

import (
	"testing"

	"vigil/api"
	"vigil/logline"
)

func at(stamp api.Stamp) logline.Line {
	return logline.Line{Stamp: stamp}
}

func TestTime(t *testing.T) {
	for _, c := range []struct {
		last, next api.Stamp
		want       api.Errno
	}{
		{5, 5, api.OK}, {5, 6, api.OK}, {5, 4, api.ErrBack}, {5, 32772, api.OK}, {5, 32773, api.ErrBack}, {5, 65535, api.ErrBack}, {5, 0, api.ErrBack},
		{0, 0, api.OK}, {0, 32767, api.OK}, {0, 32768, api.ErrBack}, {0, 65535, api.ErrBack},
		{65535, 65535, api.OK}, {65535, 0, api.OK}, {65535, 32766, api.OK}, {65535, 32767, api.ErrBack}, {65535, 65534, api.ErrBack},
		{32768, 0, api.ErrBack}, {32769, 0, api.OK}, {32768, 65535, api.OK}, {32767, 65535, api.ErrBack},
	} {
		var log Log
		if e := log.Add(at(c.last)); e != api.OK || log.Count() != 1 {
			t.Errorf("P5: the first point %d = %d, %d points", c.last, e, log.Count())
		}
		want := 1
		if c.want == api.OK {
			want = 2
		}
		if e := log.Add(at(c.next)); e != c.want || log.Count() != want {
			t.Errorf("P5: %d behind %d = %d, %d points, want %d, %d", c.next, c.last, e, log.Count(), c.want, want)
		}
	}
}

// Each point is measured from the one ahead of it that has joined.
func TestLastPoint(t *testing.T) {
	var log Log
	for i, c := range []struct {
		stamp api.Stamp
		want  api.Errno
	}{{40000, api.OK}, {39999, api.ErrBack}, {7231, api.OK}, {7230, api.ErrBack}, {40000, api.ErrBack}, {39998, api.OK}, {39999, api.OK}} {
		if e := log.Add(at(c.stamp)); e != c.want {
			t.Errorf("P5: line %d, %d = %d, want %d", i, c.stamp, e, c.want)
		}
	}
}

func TestBound(t *testing.T) {
	var log Log
	for i := range 40 {
		if e := log.Add(at(9)); e != api.OK || log.Count() != i+1 {
			t.Errorf("P5: point %d = %d, %d points", i, e, log.Count())
		}
	}
	for stamp, want := range map[api.Stamp]api.Errno{9: api.ErrFull, 10: api.ErrFull, 8: api.ErrBack} {
		if e := log.Add(at(stamp)); e != want || log.Count() != 40 {
			t.Errorf("P5: %d behind 40 points = %d, %d points, want %d", stamp, e, log.Count(), want)
		}
	}
}

func TestOwnHappenings(t *testing.T) {
	given := []logline.Happening{{Digits: [2]int{1, 2}, Count: 2}, {Digits: [2]int{3, 0}, Count: 1}}
	want := given[0]
	var log Log
	log.Add(logline.Line{Stamp: 3, Happenings: given})
	given[0].Count = 0
	kept := log.points[0]
	if kept.Stamp != 3 || len(kept.Happenings) != 2 || kept.Happenings[0] != want || kept.Happenings[1] != given[1] {
		t.Errorf("P5: the point is %+v", kept)
	}
}
