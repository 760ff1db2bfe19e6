package chunks

// queue is a row that grows at its end and is left at its beginning; what stands in it keeps its number, from 0 on.
type queue[T any] struct {
	gone int // so many have left
	rest []T // the others; only ever lengthened, so that clones may share it
}

// end is the number that the next one will have.
func (q *queue[T]) end() int { return q.gone + len(q.rest) }

func (q *queue[T]) put(x T) { q.rest = append(q.rest, x) }

// piece is what stands from one number on and below another. It has no room behind it: what is put behind a piece is never laid where the queue itself goes on.
func (q *queue[T]) piece(from, to int) []T {
	from, to = from-q.gone, to-q.gone
	return q.rest[from:to:to]
}

// leave has all below that number gone.
func (q *queue[T]) leave(to int) {
	q.rest = q.piece(to, q.end())
	q.gone = to
}

// clone shares what stands here by now, and goes on in memory of its own.
func (q *queue[T]) clone() queue[T] {
	return queue[T]{gone: q.gone, rest: q.piece(q.gone, q.end())}
}
