package sem

import "alibi/api"

// turn is a step that is being done: in a config of its own, by a thread that may, at a node.
type turn struct {
	config *Config
	pick   api.Pick
	node   api.Node
}

// deeds answers what nodes do, each kind's at its number.
func deeds() [api.Return + 1]func(*turn) {
	return [...]func(*turn){
		api.Skip:   (*turn).goOn,
		api.Read:   (*turn).goOn,
		api.Write:  (*turn).goOn,
		api.Lock:   (*turn).lock,
		api.Unlock: (*turn).unlock,
		api.Spawn:  (*turn).spawn,
		api.Join:   (*turn).goOn,
		api.Call:   (*turn).call,
		api.Branch: (*turn).branch,
		api.Return: (*turn).leave,
	}
}

// thread answers whose turn it is.
func (t *turn) thread() *Thread { return &t.config.Threads[t.pick.Who] }

// goOn goes to the next node.
func (t *turn) goOn() { t.thread().last().Node = t.node.Next }

// lock takes a lock.
func (t *turn) lock() {
	t.goOn()
	t.config.Owners[t.node.Arg] = mark(t.pick.Who)
}

// unlock gives a lock back, if the thread has it.
func (t *turn) unlock() {
	t.goOn()
	if owner := &t.config.Owners[t.node.Arg]; *owner == mark(t.pick.Who) {
		*owner = nobody
	}
}

// spawn begins a thread, and keeps it in a slot.
func (t *turn) spawn() {
	t.goOn()
	c := t.config
	t.thread().Slots[t.node.Alt] = mark(len(c.Threads))
	c.Threads = append(c.Threads, begun(t.node.Arg))
}

// call begins a function, behind which the thread goes on.
func (t *turn) call() {
	t.goOn()
	caller := t.thread()
	caller.Stack = append(caller.Stack, Frame{Func: t.node.Arg})
}

// branch goes the way that is picked.
func (t *turn) branch() {
	t.goOn()
	if t.pick.Way {
		t.thread().last().Node = t.node.Alt
	}
}

// leave ends a function, and the thread with the last one.
func (t *turn) leave() {
	one := t.thread()
	one.Stack = one.Stack[:len(one.Stack)-1]
}
