package restart

import (
	"sort"

	"quadriga/analysis"
	"quadriga/api"
	"quadriga/forward"
	"quadriga/nums"
	"quadriga/record"
	"quadriga/store"
)

// restart is what goes on: of what is to be done, and what was.
type restart struct {
	*store.Store
	analysis.Result
	Report
	// Where each loser's chain ends.
	lasts map[int]int
	desk  *forward.Desk
}

// read reads what survived, and finds what is to be done of it.
func (r *restart) read() api.Errno {
	l, errno := r.Store.Records(0)
	if errno != api.OK {
		return errno
	}
	r.Horizon, r.Low = r.Survived(), r.Point().Low
	if r.Low > r.Horizon+1 {
		return api.ErrCorrupt
	}
	// They stand in order: those that the cut takes away are the last ones.
	r.Records = sort.Search(len(l), func(i int) bool { return l[i].Gsn > r.Horizon })
	r.Result, errno = analysis.Run(r.Low, l[:r.Records]...)
	if errno != api.OK {
		return errno
	}
	r.know()
	return api.OK
}

// know notes who has won, who has lost, and where the chains of these end.
func (r *restart) know() {
	r.Report.Winners = r.Result.Winners
	r.lasts = map[int]int{}
	for _, one := range r.Result.Losers {
		r.Report.Losers = append(r.Report.Losers, one.Txn)
		r.lasts[one.Txn] = one.Last
	}
}

// cut cuts the logs at the horizon.
func (r *restart) cut() api.Errno {
	_, errno := r.Cut()
	return errno
}

// redo does again what is to be.
func (r *restart) redo() api.Errno {
	for _, one := range r.Redo {
		if errno := r.Apply(one.Record); errno != api.OK {
			return errno
		}
		r.Redone++
	}
	return api.OK
}

// undo takes back what is to be.
func (r *restart) undo() api.Errno {
	for _, one := range r.Result.Undo {
		last := r.lasts[one.Txn]
		// It has its number by where it is laid: till then the least that may be does.
		back, errno := r.Store.Undo(one.Stream, record.Back(one.Record, last+1, last), false)
		if errno != api.OK {
			return errno
		}
		r.lasts[one.Txn] = back.Gsn
		r.Undone++
	}
	return api.OK
}

// end ends all losers.
func (r *restart) end() api.Errno {
	for _, one := range r.Result.Losers {
		end := api.Record{Kind: api.KEnd, Txn: one.Txn, Prev: r.lasts[one.Txn]}
		if _, errno := r.Append(one.Home, end); errno != api.OK {
			return errno
		}
	}
	return api.OK
}

// flush flushes all streams.
func (r *restart) flush() api.Errno {
	return r.Flush()
}

// keep keeps the point, and makes the desk.
func (r *restart) keep() api.Errno {
	r.desk = forward.New(r.Store, nums.Most(r.Point().Next, r.Greatest+1, 1))
	return r.desk.Point()
}
