package infer

import (
	"slices"

	"lattice/api"
)

// Window is how many windows there are in a dim, and how much is padded ahead.
func Window(size, kernel, stride, dilation, ahead, behind, auto int, ceil bool) (int, int, api.Errno) {
	if !isPad(size) || !isLength(kernel) || !isLength(stride) || !isLength(dilation) || !isPad(ahead) || !isPad(behind) {
		return 0, 0, api.ErrArg
	}
	extent := (kernel-1)*dilation + 1
	switch auto {
	case api.ModeUpper, api.ModeLower:
		windows, padded := windowsByThemselves(size, extent, stride)
		ahead = padded / 2
		if auto == api.ModeLower {
			ahead = padded - ahead
		}
		return windows, ahead, api.OK
	case api.ModeValid:
		ahead, behind = 0, 0
	}
	room := size + ahead + behind - extent
	if room < 0 {
		return 0, 0, api.ErrShape
	}
	if !ceil {
		return room/stride + 1, ahead, api.OK
	}
	last := dividedUp(room, stride)
	if last*stride >= size+ahead {
		return last, ahead, api.OK
	}
	return last + 1, ahead, api.OK
}

// isPad: may it be how long something is, be it empty or not?
func isPad(n int) bool { return n >= 0 && n <= api.MaxElems }

// dividedUp is a quotient rounded up; neither number is below 0.
func dividedUp(n, by int) int { return (n + by - 1) / by }

// windowsByThemselves is how many windows there are if as much is padded as they ask for, and how much that is.
func windowsByThemselves(size, extent, stride int) (int, int) {
	windows := dividedUp(size, stride)
	if windows == 0 {
		return 0, 0
	}
	return windows, max((windows-1)*stride+extent-size, 0)
}

// convolved is the shape of a Conv.
func (o operation) convolved() ([]int, api.Errno) {
	x, y := o.dims(0), o.dims(1)
	if len(x) != 4 || len(y) != 4 {
		return nil, api.ErrShape
	}
	kernel := y[2:]
	if len(o.s.Kernel) > 0 && !slices.Equal(o.s.Kernel, kernel) {
		return nil, api.ErrShape
	}
	if !groupsFit(x[1], y[0], y[1], o.s.Group) || !o.hasDims(2, y[0]) {
		return nil, api.ErrShape
	}
	return o.windowed(y[0], kernel)
}

// groupsFit: can the channels and the kernels be parted into groups, each kernel with as many channels as a group has?
func groupsFit(channels, kernels, each, groups int) bool {
	if channels == 0 || kernels == 0 || channels%groups != 0 || kernels%groups != 0 {
		return false
	}
	return each == channels/groups
}

// pooled is the shape of a pool.
func (o operation) pooled() ([]int, api.Errno) {
	d := o.dims(0)
	if len(d) != 4 {
		return nil, api.ErrShape
	}
	return o.windowed(d[1], o.s.Kernel)
}

// windowed is the shape of what has so many channels, and a place for each window of the first input's last two dims.
func (o operation) windowed(channels int, kernel []int) ([]int, api.Errno) {
	d := o.dims(0)
	strides, dilations := orElse(o.s.Strides, 1, 1), orElse(o.s.Dilations, 1, 1)
	pads := orElse(o.s.Pads, 0, 0, 0, 0)
	dims, fit := []int{d[0], channels, 0, 0}, true
sides:
	for i := range 2 {
		windows, _, err := Window(d[2+i], kernel[i], strides[i], dilations[i], pads[i], pads[2+i], o.s.Auto, o.s.Ceil)
		switch err {
		case api.OK:
			dims[2+i] = windows
		default:
			fit = false
			break sides
		}
	}
	return fits(fit, dims)
}

// orElse is a list, or what stands for it if it is empty.
func orElse(list []int, instead ...int) []int {
	if len(list) == 0 {
		return instead
	}
	return list
}
