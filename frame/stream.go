package frame

import (
	"weft/api"
)

// Stream is the bytes that have come and are no whole message yet, or the fault behind which nothing comes any more.
type Stream struct {
	come   []byte
	length int // of the message that is coming; 0 till its header was looked at
	fault  api.Fault
	broken bool
}

// New answers a stream without bytes or fault.
func New() *Stream {
	return &Stream{}
}

// Feed answers the messages that are whole with b behind what had come, up to the first fault.
func (s *Stream) Feed(b []byte) []api.Message {
	if s == nil {
		return nil
	}
	var told []api.Message
	for len(b) > 0 && !s.broken {
		// No more than is missing is taken at a time, so that what is kept is never longer than a message.
		n := min(s.missing(), len(b))
		s.come = append(s.come, b[:n]...)
		b = b[n:]
		if s.length == 0 && len(s.come) == headerSize {
			s.look()
		}
		if s.length > 0 && len(s.come) == s.length {
			told = append(told, s.finish())
		}
	}
	return told
}

// Fault answers the fault, once there is one.
func (s *Stream) Fault() (api.Fault, bool) {
	if s == nil || !s.broken {
		return api.Fault{}, false
	}
	f := s.fault
	f.Data = copied(f.Data)
	return f, true
}

// Waits tells how many bytes have come that are in no message that was told; 0 with a fault.
func (s *Stream) Waits() int {
	if s == nil {
		return 0
	}
	return len(s.come)
}

// missing tells how many bytes are missing of the header, or, behind it, of the message.
func (s *Stream) missing() int {
	if s.length == 0 {
		return headerSize - len(s.come)
	}
	return s.length - len(s.come)
}

// look takes the message's length from its header, or drops what has come for the header's fault.
func (s *Stream) look() {
	s.fault, s.broken = headerFault(s.come)
	if s.broken {
		s.come = nil
		return
	}
	s.length = lengthOf(s.come)
}

// finish answers the message that has come whole, and makes room for the next one.
func (s *Stream) finish() api.Message {
	m := api.Message{Kind: kindOf(s.come), Body: copied(s.come[headerSize:])}
	s.come, s.length = nil, 0
	return m
}

// copied keeps what the caller holds apart from what the stream holds.
func copied(b []byte) []byte {
	if len(b) == 0 {
		return nil
	}
	out := make([]byte, len(b))
	copy(out, b)
	return out
}
