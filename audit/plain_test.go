package audit_test

import (
	"math"
	"math/big"
	"noria/actor"
	"noria/audit"
	"noria/exchange"
	"noria/pool"
	"slices"
)

// ends are numbers that matter: the ends of their type, and near them.
var ends = []int64{math.MinInt64, math.MinInt64 + 1, math.MinInt64 + 4, -1, math.MaxInt64 - 1, math.MaxInt64}

// number is what a cell has, without bounds; there: whether there is such a cell.
func number(x *exchange.Exchange, id int) (n *big.Int, there bool) {
	v, e := x.Room().Arena().Clone().Load(id)
	return big.NewInt(v), e == nil
}

// plain are the findings, rule by rule as the chapter says them, put in order behind that.
func plain(x *exchange.Exchange) []audit.Finding {
	var l []audit.Finding
	for who := range x.Len() {
		for place, ring := range x.Rings(who) {
			for _, rule := range plainRules(x, who, ring) {
				// The place among the rings stands for the ring, till all is in order.
				l = append(l, audit.Finding{Rule: rule, Who: who, Ring: place})
			}
		}
		if x.State(who) == actor.Halted && x.Pending(who) != 0 {
			l = append(l, audit.Finding{Rule: audit.Calls, Who: who, Ring: math.MaxInt})
		}
	}
	slices.SortFunc(l, func(a, b audit.Finding) int {
		return slices.Compare([]int{a.Who, a.Ring, int(a.Rule)}, []int{b.Who, b.Ring, int(b.Rule)})
	})
	for i, f := range l {
		if l[i].Ring = 0; f.Rule != audit.Calls {
			l[i].Ring = x.Rings(f.Who)[f.Ring]
		}
	}
	parked := 0
	for who := range x.Len() {
		parked += one(x.State(who) == actor.Parked)
	}
	if x.Room().Clock().Clone().Waiting() > parked {
		l = append(l, audit.Finding{Rule: audit.Timers})
	}
	return l
}

// plainRules are the rules that don't hold of an actor at a ring, in whatever order.
func plainRules(x *exchange.Exchange, who, ring int) []audit.Rule {
	k, _ := x.Kind(who)
	if k == exchange.Producer {
		return nil
	}
	var l []audit.Rule
	at, _ := number(x, x.Cell(who, ring))
	cursor, _ := number(x, x.Room().Cursor(ring))
	in := slices.Index(x.Room().Gate(ring).Cells(), x.Cell(who, ring)) >= 0
	isFree := at.Cmp(big.NewInt(pool.Free)) == 0
	for ahead := x.Len() - 1; ahead >= 0; ahead-- {
		has, _ := number(x, x.Cell(ahead, ring))
		if x.Behind(who, ahead) && !isFree && at.Cmp(big.NewInt(x.Start(who, ring))) >= 0 && at.Cmp(has) > 0 {
			l = append(l, audit.Ahead)
			break
		}
	}
	switch left := x.Left(who); {
	case k == exchange.Worker && !in, k == exchange.Chooser && left && in:
		l = append(l, audit.Gate)
	case (k == exchange.Consumer || k == exchange.Poller) && (left && in || !left && !in):
		l = append(l, audit.Gate)
	}
	if !isFree && at.Cmp(cursor) > 0 {
		l = append(l, audit.Over)
	}
	least := new(big.Int).Sub(cursor, big.NewInt(x.Room().Slots(ring).Size().Slots()))
	if in && !isFree && at.Cmp(least) < 0 {
		l = append(l, audit.Room)
	}
	return l
}

// plainLags are the lags at a ring, each reckoned without bounds, and then brought within those of its type.
func plainLags(x *exchange.Exchange, ring int) []audit.Lag {
	var l []audit.Lag
	cursor, _ := number(x, x.Room().Cursor(ring))
	for who := range x.Len() {
		at, there := number(x, x.Cell(who, ring))
		if !there || slices.Index(x.Room().Gate(ring).Cells(), x.Cell(who, ring)) < 0 || at.Cmp(big.NewInt(pool.Free)) == 0 {
			continue
		}
		by := new(big.Int).Sub(cursor, at)
		g := audit.Lag{Who: who, By: by.Int64()}
		if !by.IsInt64() {
			g.By = map[int]int64{1: math.MaxInt64, -1: math.MinInt64}[by.Sign()]
		}
		l = append(l, g)
	}
	return l
}
