// Package points keeps the points of a log, in their order.
package points

import (
	"vigil/api"
	"vigil/logline"
)

// around is how many stamps there are: behind the last one comes 0.
const around = 65536

// Log is a log; the zero Log is an empty one.
type Log struct {
	points []logline.Line
}

// Count tells how many points there are.
func (l *Log) Count() int {
	return len(l.points)
}

// Add lets the line's point join the log, or tells why it may not.
func (l *Log) Add(point logline.Line) api.Errno {
	if l.timeTo(point.Stamp) >= api.Half {
		return api.ErrBack
	}
	if len(l.points) >= api.MaxPoints {
		return api.ErrFull
	}
	l.points = append(l.points, ownCopy(point))
	return api.OK
}

// ownCopy: the happenings that are handed in stay the caller's, who may write into them.
func ownCopy(point logline.Line) logline.Line {
	point.Happenings = append([]logline.Happening{}, point.Happenings...)
	return point
}

// timeTo tells the time from the last point to one with this stamp: none to the first point, which may have any stamp.
func (l *Log) timeTo(stamp api.Stamp) int {
	if len(l.points) == 0 {
		return 0
	}
	last := l.points[len(l.points)-1].Stamp
	return (int(stamp) - int(last) + around) % around
}
