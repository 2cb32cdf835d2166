package graph

import "container/heap"

// least is a heap of numbers: the least one comes first.
type least []int

// Len answers how many there are.
func (h *least) Len() int { return len(*h) }

// Less tells which of two comes first.
func (h *least) Less(i, j int) bool { return (*h)[i] < (*h)[j] }

// Swap changes the places of two.
func (h *least) Swap(i, j int) { (*h)[i], (*h)[j] = (*h)[j], (*h)[i] }

// Push puts a number at the end.
func (h *least) Push(x any) {
	if n, ok := x.(int); ok {
		*h = append(*h, n)
	}
}

// Pop takes the number off that is at the end.
func (h *least) Pop() any {
	last := len(*h) - 1
	n := (*h)[last]
	*h = (*h)[:last]
	return n
}

// pop takes the least number off; there must be one.
func (h *least) pop() int {
	n, _ := heap.Pop(h).(int)
	return n
}
