package lock

import "slices"

// waiter is an owner with its claim, that waits for a key, or came to hold it.
type waiter struct {
	Claim
	owner int
	// Its neighbours in its queue.
	ahead, behind *waiter
}

// clashes tells whether another owner's claim of the same key doesn't go together with this one's.
func (w *waiter) clashes(other *waiter) bool {
	return other.owner != w.owner && !w.together(other.Claim)
}

// queue is waiters in the order in which they came: linked, so that one leaves from the midst of many at once.
type queue struct {
	first, last *waiter
}

// put lets a waiter stand at the end.
func (q *queue) put(w *waiter) {
	w.ahead, w.behind = q.last, nil
	if q.last == nil {
		q.first = w
	} else {
		q.last.behind = w
	}
	q.last = w
}

// drop takes a waiter out.
func (q *queue) drop(w *waiter) {
	if w.ahead == nil {
		q.first = w.behind
	} else {
		w.ahead.behind = w.behind
	}
	if w.behind == nil {
		q.last = w.ahead
	} else {
		w.behind.ahead = w.ahead
	}
}

// all is the waiters, in order.
func (q *queue) all() []*waiter {
	var l []*waiter
	for w := q.first; w != nil; w = w.behind {
		l = append(l, w)
	}
	return l
}

// ends is the first and the last one, none of an empty queue.
func (q *queue) ends() []*waiter {
	if q.first == nil {
		return nil
	}
	return []*waiter{q.first, q.last}
}

// lock is who holds a key, and who waits for it.
type lock struct {
	holders queue
	// The line is those that read the key and wait to write it, and behind them the others.
	readers, others queue
}

// first is the first waiter.
func (k *lock) first() *waiter {
	if k.readers.first != nil {
		return k.readers.first
	}
	return k.others.first
}

// free tells whether a claim goes together with all holders but its own owner. Where several hold a key, all of them read it: the first and the last one stand for all.
func (k *lock) free(w *waiter) bool {
	return !slices.ContainsFunc(k.holders.ends(), w.clashes)
}

// line is the waiters, in order.
func (k *lock) line() []*waiter {
	return append(k.readers.all(), k.others.all()...)
}

// edges is who waits for whom: for those holders, and those ahead, with whom it doesn't go together.
func (k *lock) edges() []Edge {
	var l []Edge
	others := k.holders.all()
	for _, w := range k.line() {
		for _, other := range others {
			if w.clashes(other) {
				l = append(l, Edge{From: w.owner, To: other.owner})
			}
		}
		others = append(others, w)
	}
	return l
}
