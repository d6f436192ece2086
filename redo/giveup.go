package redo

import "tumulus/api"

// caught does what may give up, and answers why it did.
func caught(do func()) (e api.Errno) {
	defer func() {
		if why := recover(); why != nil {
			e = why.(api.Errno)
		}
	}()
	do()
	return api.OK
}

// done gives up if something was not done.
func done(e api.Errno) {
	if e != api.OK {
		panic(e)
	}
}

// need is what came; it gives up if that failed.
func need[T any](got T, e api.Errno) T {
	done(e)
	return got
}

// insist gives up if what lies in the part is no log's.
func insist(isLog bool) {
	if !isLog {
		panic(api.ErrRedoSpoilt)
	}
}

// right is what was read; it gives up if what lies there doesn't read so.
func right[T any](got T, e api.Errno) T {
	insist(e == api.OK)
	return got
}
