package audit

import (
	"cmp"
	"noria/api"
	"noria/exchange"
	"noria/fault"
	"slices"
)

// Lag is how far one who holds a ring back is behind what its cursor has.
type Lag struct {
	Who int
	By  int64
}

// Lags are those who hold a ring back, by numbers, but for workers that are free.
func Lags(x *exchange.Exchange, ring int) []Lag {
	v := look(x)
	var l []Lag
	for who := range v.most() {
		if s := v.stand(who, ring); s.held && !s.free() {
			l = append(l, Lag{who, less(s.cursor, s.at)})
		}
	}
	return l
}

// Last is who is furthest behind at a ring, the first of them; with an error, if nobody holds it back.
func Last(x *exchange.Exchange, ring int) (Lag, error) {
	switch {
	case x == nil:
		return Lag{}, fault.Wrap("last", int64(ring), api.ErrNil)
	case ring < 0 || ring >= x.Room().Rings():
		return Lag{}, fault.Wrap("last", int64(ring), api.ErrNone)
	}
	l := Lags(x, ring)
	if len(l) == 0 {
		return Lag{}, fault.Wrap("last", int64(ring), api.ErrIdle)
	}
	// Of several that are furthest behind the first one is told.
	return slices.MaxFunc(l, func(a, b Lag) int { return cmp.Compare(a.By, b.By) }), nil
}
