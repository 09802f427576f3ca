package engine

import (
	"strings"

	"quadriga/api"
	"quadriga/back"
	"quadriga/graph"
	"quadriga/lock"
	"quadriga/record"
)

// locked tells whether an operation is done behind the lock of its key.
func (o Op) locked() bool {
	return o.Kind >= Read && o.Kind <= Delete
}

// writes tells whether an operation has a stream into which it writes, and its lock is one to write.
func (o Op) writes() bool {
	return o.Kind >= Write && o.Kind <= Delete
}

// kept is an operation with texts of its own: else short ones would keep whole ones that they are pieces of, as long as it waits.
func kept(o Op) Op {
	o.Key, o.Value = strings.Clone(o.Key), strings.Clone(o.Value)
	return o
}

// Do does an operation.
func (g *Engine) Do(n int, o Op) Answer {
	if !g.has(n) {
		return Answer{Err: api.ErrArg}
	}
	if !g.Disks().On() {
		return Answer{Err: api.ErrOff}
	}
	s := &g.sessions[n]
	if s.state == idle || s.state == open {
		s.ready = nil
	}
	if errno := g.refused(s, o); errno != api.OK {
		return Answer{Err: errno}
	}
	s.Op = o
	switch errno := g.ask(n); errno {
	case api.ErrBusy:
		s.Op, s.state = kept(o), waits
		return Answer{Err: errno}
	case api.ErrDead:
		return g.over(n, errno)
	}
	return g.work(n)
}

// refused is the error by which a session doesn't begin with an operation.
func (g *Engine) refused(s *session, o Op) api.Errno {
	if o.Kind < Begin || o.Kind > Abort {
		return api.ErrArg
	}
	from := open
	if o.Kind == Begin {
		from = idle
	}
	if s.state != from {
		return api.ErrState
	}
	if o.locked() && !record.Key(o.Key) || o.writes() && g.Stream(o.N) == nil {
		return api.ErrArg
	}
	return api.OK
}

// ask asks for the lock of a session's operation, if it needs one: ErrBusy, if it must wait, ErrDead, if it would wait for itself.
func (g *Engine) ask(n int) api.Errno {
	s := &g.sessions[n]
	if !s.locked() {
		return api.OK
	}
	errno := g.locks.Ask(n, lock.Claim{Key: s.Key, Write: s.writes()})
	if errno == api.ErrBusy && graph.Round(g.edges(), n) {
		return api.ErrDead
	}
	return errno
}

// work does a session's operation, now that it holds the lock.
func (g *Engine) work(n int) Answer {
	s := &g.sessions[n]
	a := g.answer(n)
	s.Op = Op{}
	// Of a Begin there is nothing to be taken back.
	if a.Err == api.ErrLog && s.state == open {
		return g.over(n, a.Err)
	}
	return a
}

// answer is what comes of a session's operation.
func (g *Engine) answer(n int) Answer {
	s := &g.sessions[n]
	switch s.Kind {
	case Begin:
		return g.begin(s)
	case Read, Insert, Delete:
		return g.look(s)
	case Write:
		return g.set(s, record.Has(s.Value))
	case Save:
		return Answer{Err: g.Save(s.txn, s.N)}
	case Back:
		_, errno := back.To(g.Desk, s.txn, s.N)
		return Answer{Err: errno}
	case Commit:
		return g.commit(s)
	}
	return g.over(n, api.OK)
}

// begin begins a session's transaction.
func (g *Engine) begin(s *session) Answer {
	id, errno := g.Begin(s.N)
	if errno != api.OK {
		return Answer{Err: errno}
	}
	s.txn, s.state = id, open
	return Answer{}
}

// look does what hangs on the key's value.
func (g *Engine) look(s *session) Answer {
	v, errno := g.Look(s.txn, s.Key)
	if errno != api.OK {
		return Answer{Err: errno}
	}
	switch {
	case s.Kind == Insert && v.Has:
		return Answer{Err: api.ErrTwice}
	case s.Kind == Insert:
		return g.set(s, record.Has(s.Value))
	case !v.Has:
		return Answer{Err: api.ErrNone}
	case s.Kind == Delete:
		return g.set(s, api.Val{})
	}
	return Answer{Val: v}
}

// set lets the key have a value.
func (g *Engine) set(s *session, v api.Val) Answer {
	return Answer{Err: g.Set(s.txn, s.N, s.Key, v)}
}

// commit asks for a session's transaction to be committed.
func (g *Engine) commit(s *session) Answer {
	gsn, errno := g.Ask(s.txn)
	if errno != api.OK {
		return Answer{Err: errno}
	}
	s.gsn, s.state = gsn, asked
	return Answer{Err: api.ErrBusy}
}
