// Package points keeps the points of a log, in their order, and tells the time between them.
package points

import (
	"vigil/api"
	"vigil/logline"
)

// around is how many stamps there are: behind the last one comes 0.
const around = 65536

// point is a line's, with the time from the first point to it: stamps alone would not tell it,
// since they may have gone around in between.
type point struct {
	line logline.Line
	time int
}

// Log is a log; the zero Log is an empty one.
type Log struct {
	points []point
}

// Count tells how many points there are.
func (l *Log) Count() int {
	return len(l.points)
}

// Add lets the line's point join the log, or tells why it may not.
func (l *Log) Add(line logline.Line) api.Errno {
	step := l.timeTo(line.Stamp)
	if step >= api.Half {
		return api.ErrBack
	}
	if len(l.points) >= api.MaxPoints {
		return api.ErrFull
	}
	whole := l.Time(0, len(l.points)-1) + step
	l.points = append(l.points, point{line: ownCopy(line), time: whole})
	return api.OK
}

// At tells the line of a point; an empty one, if there is no such point.
func (l *Log) At(i int) logline.Line {
	if !l.has(i) {
		return logline.Line{}
	}
	return l.points[i].line
}

// Time tells the time between two points, whichever comes first; 0, if one of them is not there.
func (l *Log) Time(i int, j int) int {
	if !l.has(i) || !l.has(j) {
		return 0
	}
	time := l.points[j].time - l.points[i].time
	if time < 0 {
		return -time
	}
	return time
}

// Settled tells how many points are settled with this reach. They are the first ones, since the time
// to the last point does not grow from one to the next. None is below every time, so with it all are.
func (l *Log) Settled(reach int) int {
	last := len(l.points) - 1
	count := 0
	for count <= last && l.Time(count, last) > reach {
		count++
	}
	return count
}

func (l *Log) has(i int) bool {
	return i >= 0 && i < len(l.points)
}

// ownCopy: the happenings that are handed in stay the caller's, who may write into them.
func ownCopy(line logline.Line) logline.Line {
	line.Happenings = append([]logline.Happening{}, line.Happenings...)
	return line
}

// timeTo tells the time from the last point to one with this stamp: none to the first point, which may have any stamp.
func (l *Log) timeTo(stamp api.Stamp) int {
	if len(l.points) == 0 {
		return 0
	}
	last := l.points[len(l.points)-1].line.Stamp
	return (int(stamp) - int(last) + around) % around
}
