package engine

import (
	"slices"

	"quadriga/api"
	"quadriga/back"
)

// over takes a session's transaction back: it is idle, and why that is its answer.
func (g *Engine) over(n int, why api.Errno) Answer {
	s := &g.sessions[n]
	if _, errno := back.All(g.Desk, s.txn); errno != api.OK {
		// Nobody else may see what is half taken back: what it holds it holds still. Who came last to a line lets nobody pass by leaving.
		g.locks.Quit(n)
		s.Op = Op{}
		return Answer{Err: errno}
	}
	*s = session{}
	g.pass(g.locks.Free(n))
	return Answer{Err: why}
}

// pass lets sessions that came to hold their locks do what they waited to do, each with all that follows of it.
func (g *Engine) pass(came []int) {
	for _, n := range came {
		s := &g.sessions[n]
		s.state = open
		a := g.work(n)
		s.ready = &a
	}
}

// Force flushes streams, and tells who is committed.
func (g *Engine) Force(l ...int) api.Errno {
	if !g.made() {
		return api.ErrArg
	}
	if errno := g.Flush(l...); errno != api.OK {
		return errno
	}
	var told []int
	for _, id := range g.Settle() {
		if n, ok := g.who(id); ok {
			g.sessions[n] = session{ready: &Answer{Gsn: g.sessions[n].gsn}}
			told = append(told, n)
		}
	}
	g.pass(g.locks.Free(told...))
	return api.OK
}

// who is the session whose transaction was asked to be committed; a transaction that somebody began at the desk itself has none.
func (g *Engine) who(id int) (int, bool) {
	n := slices.IndexFunc(g.sessions, func(s session) bool {
		return s.state == asked && s.txn == id
	})
	return n, n >= 0
}
