package linear

// temps is how many registers, from 0 on, are for what stands in slots, while it is taken or made: as many as an instruction takes at most.
const temps = 3

// cache is what the temps have: a virtual register each, that stands in its home, too.
type cache struct {
	has  [temps]int // below 0: none
	used [temps]int // when that was put there, or taken, last
	now  int
}

// forget has none of them have anything.
func (c *cache) forget() {
	*c = cache{has: [temps]int{-1, -1, -1}}
}

// find is the temp that has a virtual register; below 0: none has it.
func (c *cache) find(reg int) int {
	for t, r := range c.has {
		if r == reg {
			c.use(t)
			return t
		}
	}
	return -1
}

// use keeps in mind that a temp was needed now.
func (c *cache) use(t int) {
	c.now++
	c.used[t] = c.now
}

// put tells that a temp has a virtual register, and no other temp has that any more, as it may have been made anew.
func (c *cache) put(t, reg int) {
	for n, r := range c.has {
		if r == reg {
			c.has[n] = -1
		}
	}
	c.has[t] = reg
	c.use(t)
}

// oldest is the temp that was not needed for longest: none that an instruction, of three at most, has just found what it takes in.
func (c *cache) oldest() int {
	oldest := 0
	for t, when := range c.used {
		if when < c.used[oldest] {
			oldest = t
		}
	}
	return oldest
}

// clear is the oldest one, that has nothing any more.
func (c *cache) clear() int {
	t := c.oldest()
	c.has[t] = -1
	return t
}
