package tx

import "rescript/api"

const (
	// loneV and chainV are the V of no Chain, and of one, without what Chain and Y add to it.
	loneV  = 27
	chainV = 35

	// leastV is that of the least Chain that is one, mostV that of the greatest.
	leastV = chainV + 2
	mostV  = chainV + 2*mostChain + mostY
)

// wire is a transaction as its bytes have it: of a legacy one they have V for Chain and Y.
type wire struct {
	api.Tx
	v uint64
}

// written is how the bytes of a transaction have it.
func written(t api.Tx) wire {
	w := wire{Tx: t}
	if t.Kind != api.TxLegacy {
		return w
	}
	w.v = loneV + t.Y
	if t.Chain > 0 {
		w.v = chainV + 2*t.Chain + t.Y
	}
	w.Chain, w.Y = 0, 0
	return w
}

// told is the transaction whose bytes have it so; it gives up where there is none.
func (w wire) told() api.Tx {
	t := w.Tx
	if t.Kind != api.TxLegacy {
		return t
	}
	switch {
	case loneV <= w.v && w.v <= loneV+mostY:
		t.Y = w.v - loneV
	case leastV <= w.v && w.v <= mostV:
		t.Chain, t.Y = (w.v-chainV)/2, (w.v-chainV)%2
	default:
		giveUp(api.ErrForm)
	}
	return t
}
