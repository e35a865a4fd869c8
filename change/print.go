package change

import (
	"trestle/api"
	"trestle/hexa"
)

// The words that lines of an encoding begin with.
const (
	branchWord = "branch "
	extraWord  = "extra "
	copyWord   = "copy "
)

// encoding makes the encoding of a change; false: the change is not valid.
func encoding(c api.Change) ([]byte, bool) {
	// The rest of what makes a change valid comes first: it keeps short what
	// is encoded.
	if !rightParts(c) {
		return nil, false
	}
	b := encode(c)
	if len(b) > api.MaxBody {
		return nil, false
	}
	return b, true
}

// encode writes a change, however long it becomes.
func encode(c api.Change) []byte {
	b := []byte(hexa.Hex(c.Manifest[:]) + "\n" + c.User + "\n")
	b = append(b, hexa.Number(c.When)+" "+hexa.Number(int64(c.Zone))+"\n"...)
	b = append(b, branchWord+c.Branch+"\n"...)
	for _, e := range c.Extras {
		b = append(b, extraWord+e.Key+" "+hex(e.Value)+"\n"...)
	}
	for _, k := range c.Copies {
		b = append(b, copyWord+hex(k.From)+" "+hex(k.To)+"\n"...)
	}
	return append(b, "\n"+c.Text...)
}

// hex tells the bytes of a text as digits.
func hex(s string) string {
	return hexa.Hex([]byte(s))
}
