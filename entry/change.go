package entry

import (
	"jalousie/api"
	"jalousie/pack"
)

// The ops of a change.
const (
	put    = 1
	remove = 2
	retag  = 3
)

// Change is a change of an item.
type Change struct {
	Op    int
	Name  string
	Tags  []string
	Value string
}

// FormedChange tells whether a change is one.
func FormedChange(c Change) bool {
	switch {
	case c.Op < put || c.Op > retag:
		return false
	case !named(c.Name):
		return false
	case len(c.Tags) > api.MaxTags || c.Op == remove && len(c.Tags) > 0:
		return false
	case len(c.Value) > api.MaxValue || c.Op != put && c.Value != "":
		return false
	}
	for i, tag := range c.Tags {
		if !named(tag) || i > 0 && c.Tags[i-1] >= tag {
			return false
		}
	}
	return true
}

// PackChange is a formed change, packed.
func PackChange(c Change) ([]byte, api.Errno) {
	if !FormedChange(c) {
		return nil, api.ErrArg
	}
	var o pack.Out
	o.Num(uint64(c.Op))
	o.Text([]byte(c.Name))
	o.Num(uint64(len(c.Tags)))
	for _, tag := range c.Tags {
		o.Text([]byte(tag))
	}
	o.Text([]byte(c.Value))
	return o.End()
}

// ParseChange is the formed change that is packed as b.
func ParseChange(b []byte) (Change, api.Errno) {
	in := pack.Read(b)
	c := Change{Op: int(in.Num(retag)), Name: string(in.Text(api.MaxName))}
	for range in.Num(api.MaxTags) {
		c.Tags = append(c.Tags, string(in.Text(api.MaxName)))
	}
	c.Value = string(in.Text(api.MaxValue))
	if !in.Over() || !FormedChange(c) {
		return Change{}, api.ErrForm
	}
	return c, api.OK
}

func named(s string) bool {
	return len(s) >= 1 && len(s) <= api.MaxName
}
