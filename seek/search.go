package seek

import (
	"slices"

	"alibi/api"
	"alibi/sem"
)

// origin is how a config came to the list: from which place of it, and by which pick.
type origin struct {
	from int
	pick api.Pick
}

// search is a search that is under way.
type search struct {
	program api.Program
	most    int
	list    []origin
	open    []sem.Config    // those at the end of the list that weren't gone through yet: of the others an origin is enough
	met     map[string]bool // the keys of all in the list
	key     []byte          // room for a key, used again and again
	leftOut bool
}

// put puts a config behind all others, or leaves it out, if it isn't in the list yet.
func (s *search) put(c sem.Config, o origin) {
	s.key = appendKey(s.key[:0], s.program, c)
	if s.met[string(s.key)] {
		return
	}
	if len(s.list) >= s.most {
		s.leftOut = true
		return
	}
	s.met[string(s.key)] = true
	s.list = append(s.list, o)
	s.open = append(s.open, c)
}

// next takes the first config that wasn't gone through yet.
func (s *search) next() sem.Config {
	c := s.open[0]
	s.open[0] = sem.Config{} // else its memory would be kept as long as that of those behind it
	s.open = s.open[1:]
	return c
}

// goOn looks at all that the config at a place of the list goes on to.
func (s *search) goOn(at int, c sem.Config) {
threads:
	for who := range c.Threads {
		if !c.Enabled(s.program, who) {
			continue
		}
		n, _ := c.At(s.program, who)
		for _, way := range [...]bool{false, true} {
			if way && n.Kind != api.Branch {
				continue threads
			}
			x := api.Pick{Who: who, Way: way}
			s.put(c.Step(s.program, x), origin{from: at, pick: x})
		}
	}
}

// path answers the picks by which the config at a place of the list was come to.
func (s *search) path(at int) []api.Pick {
	var l []api.Pick
	for at > 0 {
		l = append(l, s.list[at].pick)
		at = s.list[at].from
	}
	slices.Reverse(l)
	return l
}

// appendKey adds bytes that two configs of one program share just if they are alike. Each number in a config is small
// enough for a byte; locks and slots that the program doesn't have are nobody's.
func appendKey(b []byte, p api.Program, c sem.Config) []byte {
	for _, owner := range c.Owners[:p.Locks] {
		b = append(b, byte(owner))
	}
	for _, one := range c.Threads {
		for _, who := range one.Slots[:p.Slots] {
			b = append(b, byte(who))
		}
		b = append(b, byte(len(one.Stack))) // else it wouldn't be told where a stack ends
		for _, at := range one.Stack {
			b = append(b, byte(at.Func), byte(at.Node))
		}
	}
	return b
}
