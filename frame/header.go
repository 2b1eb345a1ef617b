package frame

import (
	"weft/api"
)

const (
	markerSize = 16
	lengthAt   = markerSize
	kindAt     = lengthAt + 2
	headerSize = kindAt + 1

	markerByte = 255
)

// What a fault of a header is told by.
const (
	headerCode = 1
	badMarker  = 1
	badLength  = 2
	badKind    = 3
)

// writeHeader writes the header of a message of that kind that is as long as out.
func writeHeader(out []byte, kind int) {
	for i := range markerSize {
		out[i] = markerByte
	}
	out[lengthAt], out[lengthAt+1] = byte(len(out)>>8), byte(len(out))
	out[kindAt] = byte(kind)
}

// headerFault answers what is wrong with a whole header, the first thing alone, and whether anything is.
func headerFault(head []byte) (api.Fault, bool) {
	kind := kindOf(head)
	switch {
	case !isMarked(head):
		return api.Fault{Code: headerCode, Sub: badMarker}, true
	case !isLength(lengthOf(head)):
		return lengthFault(head), true
	case !isKind(kind):
		return api.Fault{Code: headerCode, Sub: badKind, Data: []byte{head[kindAt]}}, true
	case !isBody(lengthOf(head)-headerSize, kind):
		return lengthFault(head), true
	}
	return api.Fault{}, false
}

func lengthFault(head []byte) api.Fault {
	return api.Fault{Code: headerCode, Sub: badLength, Data: []byte{head[lengthAt], head[lengthAt+1]}}
}

func isMarked(head []byte) bool {
	for _, x := range head[:markerSize] {
		if x != markerByte {
			return false
		}
	}
	return true
}

func isLength(length int) bool {
	return length >= headerSize && length <= api.MaxMessage
}

func isBody(size, kind int) bool {
	least, most := Least(kind)
	return size >= least && size <= most
}

func lengthOf(head []byte) int {
	return int(head[lengthAt])<<8 | int(head[lengthAt+1])
}

func kindOf(head []byte) int {
	return int(head[kindAt])
}
