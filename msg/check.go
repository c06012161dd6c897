package msg

import "leadline/api"

// What the sensors measure at most (or, the cold, at least).
const (
	fastest   = 10000   // millimetres a second, either way
	lastAngle = 65535   // the next one is the first again
	deepest   = 1000000 // millimetres
	farthest  = 2000000 // microseconds there and back
	coldest   = -500    // a hundredth of a degree
	warmest   = 4500
	saltiest  = 4500 // a hundredth of a part by thousand
)

// span: the least and the greatest number that a measure may be.
type span struct{ least, most int32 }

// Check tells ErrKind of a kind that there isn't, ErrUnits of a measure that may not be.
func Check(m api.Msg) error {
	switch m.Kind {
	case api.MsgSpeed, api.MsgCompass, api.MsgDepth, api.MsgWater:
		if m.Id != 0 {
			return wrong(api.ErrUnits) // a beacon has no part in these
		}
		fallthrough // from here on they are held to their measures as a range is
	case api.MsgRange:
		a, b := spans(m.Kind)
		if !a.has(m.A) || !b.has(m.B) {
			return wrong(api.ErrUnits)
		}
		return nil
	default:
		return wrong(api.ErrKind)
	}
}

// spans tells what A and B may be in a message of that kind.
func spans(kind int) (a, b span) {
	switch kind {
	case api.MsgSpeed:
		a = span{-fastest, fastest}
		b = a
	case api.MsgCompass:
		a = span{0, lastAngle}
	case api.MsgDepth:
		a = span{0, deepest}
	case api.MsgRange:
		a = span{1, farthest} // a time of nought is none that was measured
	case api.MsgWater:
		a = span{coldest, warmest}
		b = span{0, saltiest}
	}
	return a, b // a span of noughts: there is no such number in it
}

// has tells whether v is within s.
func (s span) has(v int32) bool {
	return v >= s.least && v <= s.most
}
