package grant

import "curtilage/api"

// The stages.
const (
	booting   = 0
	handedOff = 1
	debugging = 2
)

// right is what may be done: any of reading, writing and fetching.
type right uint8

// The rights, by the letters that the document has for them.
const (
	r   right = 1
	w   right = 2
	x   right = 4
	rw        = r | w
	rx        = r | x
	rwx       = r | w | x
)

// letters returns the letters of a right, in the order r, w, x.
func (has right) letters() string {
	var s string
	for i, letter := range "rwx" {
		if has>>i&1 != 0 {
			s += string(letter)
		}
	}
	return s
}

// holder is a master in a stage.
type holder struct {
	who   int
	stage int
}

// rights is what a holder may do in each region.
type rights struct {
	code, data, store, port, fuses right
}

// in returns the right in a region, and none where there is no such region.
func (has rights) in(region int) right {
	switch region {
	case Code:
		return has.code
	case Data:
		return has.data
	case Store:
		return has.store
	case Port:
		return has.port
	case Fuses:
		return has.fuses
	}
	return 0
}

// rightsOf returns the rights of a holder. One that is missing has none.
func rightsOf(h holder) rights {
	return map[holder]rights{
		{api.ROM, booting}:  {code: rw, data: rw, store: rw, port: rw, fuses: rw},
		{api.DMA, booting}:  {code: rw, data: rw, store: r},
		{api.Host, booting}: {port: rw},

		{api.Core, handedOff}: {code: rx, data: rw, store: r, port: rw, fuses: r},
		{api.DMA, handedOff}:  {code: r, data: rw, store: r},
		{api.Host, handedOff}: {port: rw},

		{api.Core, debugging}: {code: rwx, data: rw, store: r, port: rw, fuses: r},
		{api.DMA, debugging}:  {code: r, data: rw, store: r},
		{api.Host, debugging}: {code: rw, data: rw, store: r, port: rw, fuses: r},
	}[h]
}
