package seq_test

import "unsafe"

// spoil writes into all room of a list, the spare room too.
func spoil[T any](list []T, with T) {
	list = list[:cap(list)]
	for i := range list {
		list[i] = with
	}
}

// shares tells whether a piece lies in the memory of the whole.
func shares(piece, whole string) bool {
	if piece == "" || whole == "" {
		return false
	}
	at := uintptr(unsafe.Pointer(unsafe.StringData(piece)))
	from := uintptr(unsafe.Pointer(unsafe.StringData(whole)))
	return at >= from && at < from+uintptr(len(whole))
}
