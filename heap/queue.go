package heap

// ordered is what a type must tell for a queue of it.
type ordered[T any] interface {
	// ahead tells whether this one comes out ahead of the other.
	ahead(other T) bool
}

// queue is a tree, laid out as a list: below the item i are 2i + 1 and 2i + 2.
// None is ahead of the one above it, so the first comes out at once.
type queue[T ordered[T]] struct{ items []T }

func (q *queue[T]) put(item T) {
	q.items = append(q.items, item)
	q.rise(len(q.items) - 1)
}

// take takes the first item out; only where there is one.
func (q *queue[T]) take() T {
	first, last := q.items[0], len(q.items)-1
	q.swap(0, last)
	// What was taken out is kept no longer, not even behind the list's end.
	clear(q.items[last:])
	q.items = q.items[:last]
	q.sink(0)
	return first
}

// rise brings an item up to where it is not ahead of the one above it.
func (q *queue[T]) rise(at int) {
up:
	if at == 0 {
		return
	}
	above := (at - 1) / 2
	if q.items[at].ahead(q.items[above]) {
		q.swap(at, above)
		at = above
		goto up
	}
}

// sink brings an item down to where none below is ahead of it.
func (q *queue[T]) sink(at int) {
down:
	if below := q.firstBelow(at); below < len(q.items) && q.items[below].ahead(q.items[at]) {
		q.swap(at, below)
		at = below
		goto down
	}
}

// firstBelow is where the first one of the two below an item is: behind the
// list's end, if there is none.
func (q *queue[T]) firstBelow(at int) int {
	left, right := 2*at+1, 2*at+2
	if right < len(q.items) && q.items[right].ahead(q.items[left]) {
		return right
	}
	return left
}

func (q *queue[T]) swap(a, b int) { q.items[a], q.items[b] = q.items[b], q.items[a] }
